/-
  The document's Decode (layer 8). Written by tools/gen_e14.py. By an AI agent.
-/
import Derived.Test.YtkbkalhcdbklkaaGreatDoorJ17
import Derived.Test.YtkbkalhcdbklkaaGreatDoorJ16
namespace Go.Proofs.YtkbkalhcdbklkaaGreatDoor
open Go Go.RowKit
set_option maxRecDepth 20000
def decE (n : Nat) : Nat := if n % 2 ^ 255 < P25 then if wokN (n % 2 ^ 255) (n / 2 ^ 255) = true then 0 else 7 else 6
def decT (n : Nat) : Tr := if n % 2 ^ 255 < P25 then withN (n % 2 ^ 255) (n / 2 ^ 255) else ⟨0, 0, 0⟩
theorem vb_top {us : List UInt8} (hl : us.length = 32) : vb us / 2 ^ 255 = nth us 31 / 128 ∧ vb us / 2 ^ 255 < 2 := by
 have hv : by8 (vb us) 31 = nth us 31 := by unfold vb; rw [hl]; exact vk_dig us 31 32 (by decide)
 have hn := nth_lt us 31
 have hw := vb_lt hl
 rw [W4_256] at hw
 have e : vb us / 256 ^ 31 = nth us 31 := by
  rw [← hv]
  unfold by8 dgt
  exact (Nat.mod_eq_of_lt (Nat.div_lt_of_lt_mul (by rw [← Nat.pow_succ]; exact hw))).symm
 rw [half_is, ← Nat.div_div_eq_div_mul, e]
 omega
section
attribute [local irreducible] wd by8 d16 set16w fl rl setA t3f set8p set4w vk withN wokN vb
set_option maxHeartbeats 6400000 in
theorem refDecode_any {A : Option Addr} {c : Nat} {us : List UInt8} (u32 : us.length = 32) (w : World) (hr : Rd w w.heap.size A c us) :
  Calls Tryz.prog 37 #[.slice A 32 c] w fun e w' => e = .returned (.tuple #[t3v (decT (vb us)), .int .i64 (decE (vb us) : Int)]) ∧ Below w.heap.size w w' := by
 obtain ⟨i0, hi, hz0, hz1, hz2⟩ := info_parts infoByte
 obtain ⟨htop, hbit⟩ := vb_top u32
 have hcp := hr.cap
 rw [u32] at hcp
 have hset := @low_set us u32 (UInt8.ofNat (nth us 31 % 128)) (by simp; omega)
 have hb0 : (UInt8.ofNat (nth us 31 % 128)).toNat = nth us 31 % 128 := by simp; omega
 generalize UInt8.ofNat (nth us 31 % 128) = b0 at hset hb0
 have t31 : (nth us 31 : Int).tmod 128 = ((nth us 31 % 128 : Nat) : Int) := by rw [Int.tmod_eq_emod_of_nonneg (by omega)]; omega
 have t31' : (nth us 31 : Int) % 128 = ((nth us 31 % 128 : Nat) : Int) := by omega
 have l31 := nth_lt us 31
 have u0 : IntKind.u8.wrap ((nth us 31 % 128 : Nat) : Int) = (b0.toNat : Int) := by rw [IntKind.wrap_u8, hb0]; omega
 obtain ⟨bit, hbe⟩ : ∃ b, b = vb us / 2 ^ 255 := ⟨_, rfl⟩
 rw [← hbe] at htop hbit
 have D1 := Lib.hid (show (nth us 31 : Int) / 128 = (bit : Int) by omega)
 have D2 := Lib.hid (show (nth us 31 : Int).tdiv 128 = (bit : Int) by rw [Int.tdiv_eq_ediv_of_nonneg (by omega)]; omega)
 have D3 := Lib.hid (show IntKind.u8.wrap (bit : Int) = (bit : Int) by rw [IntKind.wrap_u8]; omega)
 have D4 := Lib.hid (show IntKind.i64.wrap (bit : Int) = (bit : Int) by rw [IntKind.wrap_i64]; omega)
 obtain ⟨V, hV⟩ : ∃ V, V = vb us % 2 ^ 255 := ⟨_, rfl⟩
 have hV5 : V < 2 ^ 255 := by rw [hV]; exact Nat.mod_lt _ (by decide)
 have hVW : V < W4 := Nat.lt_trans hV5 (by decide +kernel)
 rw [← hV] at hset
 have eT : decT (vb us) = if V < P25 then withN V bit else ⟨0, 0, 0⟩ := by unfold decT; rw [← hV, ← hbe]
 have eE : decE (vb us) = if V < P25 then if wokN V bit = true then 0 else 7 else 6 := by unfold decE; rw [← hV, ← hbe]
 obtain ⟨RT, hRT⟩ : ∃ t, t = decT (vb us) := ⟨_, rfl⟩
 obtain ⟨RE, hRE⟩ : ∃ t, t = decE (vb us) := ⟨_, rfl⟩
 rw [← hRT, ← hRE]
 rw [← hRT] at eT
 rw [← hRE] at eE
 have hvs : vb (gen (bf V) 32) = V := vb_of hVW
 have kD := fun A c w hr => rdec_walk (A := A) (c := c) (bs := gen (bf V) 32) (q := decide (V < P25)) (gen_length _ _) w hr (by rw [hvs])
 rw [hvs] at kD
 have KD := Lib.hid kD
 have ET := Lib.hid eT
 have EE := Lib.hid eE
 have HBIT := Lib.hid hbit
 obtain ⟨bA, oA, rfl, hbA, cA⟩ := hr.at_ (k := 31) (by omega)
 obtain ⟨m, hm⟩ : ∃ m, m = nth us 31 := ⟨_, rfl⟩
 rw [← hm] at D1 D2 cA t31 t31' u0 hb0
 have HM := Lib.hid hm
 generalize m % 128 = m0 at t31 t31' u0 hb0
 have o0 := z48_new (w := w) (B := w.heap.size) (Nat.le_refl _)
 have hc := (Below.refl w.heap.size w).alloc (Nat.le_refl _) Z48
 obtain ⟨v1, e1⟩ : ∃ v, v = w.alloc Z48 := ⟨_, rfl⟩
 obtain ⟨g2, eg⟩ : ∃ g, g = w.heap.size := ⟨_, rfl⟩
 rw [← e1] at o0 hc
 have o2 : OwnF v1 w.heap.size 70 (some ⟨g2, 0, none⟩) 48 48 (fun _ => .int .i64 0) := by rw [eg]; exact o0
 have h2 := (hr.keep hc).keep ((Below.refl w.heap.size v1).alloc hc.size (.cells #[] 5))
 have h3 : Own (v1.alloc (.cells #[] 5)) v1.heap.size 5 (some ⟨v1.heap.size, 0, none⟩) 0 [] := World.ownsRow_made v1 #[] 0 (Nat.le_refl _) (by decide) (by decide)
 have h4 : Below v1.heap.size v1 (v1.alloc (.cells #[] 5)) := (Below.refl _ v1).alloc (Nat.le_refl _) _
 clear hV eT eE hRT hRE hbe htop hbit kD o0 hvs hV5 hVW hm
 go_enter Tryz.func37, Tryz.ntmps37
 go_upto_region 3 with fail
 rw [← e1]
 rw [show Value.pointer (some ⟨w.heap.size, 0, none⟩) = .pointer (some ⟨g2, 0, none⟩) by rw [eg]]
 clear e1 eg
 go_upto_region 4 with (at_builtin; refine wpList_app _ rfl (.tmp 13) (.tmp 14) _ rfl v1.heap.size 5 i0 _ Tryz.underlying22 hi hz0 hz1 hz2 rfl (xs := []) rfl h3 (by rw [u32]; rfl) h2 (by simp only [List.length_nil]; omega) (by simp) ?_; intro A1 c1 v2 ho hb; rw [show (([] : List UInt8) ++ us).length = 32 from u32])
 replace ho : Own v2 v1.heap.size 5 A1 c1 us := ho
 replace hb := h4.trans hb
 clear h2 h3 h4
 obtain ⟨g, rfl⟩ := ho.at0 (by omega)
 have cl := ho.cell (k := 31) (by omega)
 rw [← HM.out] at cl
 have fr := ho.free 31
 have o3 := ho.set_ 31 b0
 rw [hset, hb0] at o3
 have hb3 := hb.setCell (p := ⟨g, 31, none⟩) ho.ge (.int .u8 (m0 : Int))
 replace o2 := OwnF.keep o2 hb3
 replace hc := bnx hc hb3
 have gl31 : (31 : Int) < 32 := by decide
 go_upto_region 5 with fail
 obtain ⟨v3, e3⟩ : ∃ v, v = v2.setCell ⟨g, 31, none⟩ (.int .u8 (m0 : Int)) := ⟨_, rfl⟩
 rw [← e3] at o2 hc o3 ⊢
 clear e3 hb3 hb cl fr ho u0 t31 t31' hset hb0
 have KR := Lib.hid (KD.out _ _ _ o3.rd)
 clear o3 KD
 by_cases hVP : V < P25
 ·rw [decide_eq_true hVP, if_pos rfl, if_pos rfl] at KR
  have KW0 := fun w => refwith_any hVP HBIT.out w
  have eT := ET.out
  have eE := EE.out
  rw [if_pos hVP] at eT eE
  rw [← eT] at KW0
  obtain ⟨q, hq⟩ : ∃ q, q = wokN V bit := ⟨_, rfl⟩
  rw [← hq] at KW0 eE
  obtain ⟨T, hT⟩ : ∃ T, T = RT := ⟨_, rfl⟩
  rw [← hT] at KW0
  have KW := Lib.hid KW0
  have EE2 := Lib.hid eE
  have HT := Lib.hid hT
  have HQ := Lib.hid (show q = false → RT = ⟨0, 0, 0⟩ from fun h => by rw [eT]; unfold withN; rw [← hq, h]; rfl)
  clear KW0 eT eE hq hT ET EE hVP
  go_wp2_with fail
  go_at_call 77
  refine KR.out.mono ?_
  rintro e v4 ⟨rfl, h0⟩
  replace o2 := OwnF.keep o2 h0
  replace hc := bnx hc h0
  clear h0 KR
  have on0 : O16 (v4.alloc Z16) v4.heap.size v4.heap.size 0 := O16.zero (own_Z16 (Nat.le_refl _))
  have o5 := (on0.put V).mono hc.size
  have hbz := ((Below.refl _ v4).alloc (Nat.le_refl _) Z16).trans (on0.below V)
  replace o2 := OwnF.keep o2 hbz
  replace hc := bnx hc hbz
  clear hbz
  go_upto_region 8 with ((with_reducible refine fl_store on0 V ?_ ?_ ?_); rfl; rfl)
  obtain ⟨v5, ev⟩ : ∃ v, v = set16w (v4.alloc Z16) v4.heap.size V := ⟨_, rfl⟩
  obtain ⟨g5, eg⟩ : ∃ g, g = v4.heap.size := ⟨_, rfl⟩
  rw [← ev] at o2 o5 hc ⊢
  rw [← eg] at o5 ⊢
  clear ev eg on0
  have HC := Lib.hid (fun wz (hz : Below v5.heap.size v5 wz) => ((bnx hc hz).cell (p := ⟨bA, oA + 31, none⟩) hbA).trans cA)
  refine wp_region_box 13 [some 32, some 33, some 34, some 35, some 36, some 37, some 38, some 31, some 39, some 40, some 7, none, some 8] [.val (fv V), .val (.slice (some ⟨bA, oA, none⟩) 32 c), .val (.pointer (some ⟨bA, oA + 31, none⟩)), .val (.int .u8 (m : Int)), .val (.int .u8 (bit : Int)), .val (.int .i64 (bit : Int)), .val (.tuple #[t3v T, .bool q]), .val (.tuple #[t3v T, .bool q]), .val (t3v T), .val (.bool q), .box 70 48, .holds 10 70 48 (t3f T), .val (.bool q)] v5.heap.size (fun wz => Below v5.heap.size v5 wz) (by kernel_rfl) (by kernel_rfl)
   (fun _ _ h _ hb => h.trans hb) ((Below.refl _ _).drew) (Nat.le_refl _) (fun u => by simp only [List.filterMap_cons, List.filterMap_nil, id, puts, List.foldl_cons, List.foldl_nil]; go_simp; exact rfl) ?_ ?_
  ·simp only [List.take_succ_cons, List.take_zero]
   refine .cons (fun u w L hL hS hBw hd => ?_) ?_
   ·exact GB.run 32 rfl (fv V) rfl (run_fload rfl rfl (o5.keep hS)) rfl rfl
   refine .cons (fun u w L hL hS hBw hd => ?_) ?_
   ·exact GB.run 33 rfl (.slice (some ⟨bA, oA, none⟩) 32 c) rfl (by go_simp) rfl rfl
   refine .cons (fun u w L hL hS hBw hd => ?_) ?_
   ·have d33 : u 33 = .slice (some ⟨bA, oA, none⟩) 32 c := depB hd 1 rfl
    rw [d33]
    exact GB.run 34 rfl (.pointer (some ⟨bA, oA + 31, none⟩)) rfl (by go_simp) rfl rfl
   refine .cons (fun u w L hL hS hBw hd => ?_) ?_
   ·have d34 : u 34 = .pointer (some ⟨bA, oA + 31, none⟩) := depB hd 2 rfl
    rw [d34]
    have hq := HC.out w hS
    exact GB.run 35 rfl (.int .u8 (m : Int)) rfl (by go_simp) rfl rfl
   refine .cons (fun u w L hL hS hBw hd => ?_) ?_
   ·have d35 : u 35 = .int .u8 (m : Int) := depB hd 3 rfl
    rw [d35]
    have hq := D1.out
    have hq2 := D2.out
    have hq3 := D3.out
    exact GB.run 36 rfl (.int .u8 (bit : Int)) rfl (by go_simp) rfl rfl
   refine .cons (fun u w L hL hS hBw hd => ?_) ?_
   ·have d36 : u 36 = .int .u8 (bit : Int) := depB hd 4 rfl
    rw [d36]
    have hq := D4.out
    exact GB.run 37 rfl (.int .i64 (bit : Int)) rfl (by go_simp) rfl rfl
   refine .cons (fun u w L hL hS hBw hd => ?_) ?_
   ·have d32 : u 32 = fv V := depB hd 0 rfl
    rw [d32]
    have d37 : u 37 = .int .i64 (bit : Int) := depB hd 5 rfl
    rw [d37]
    refine GB.call 38 rfl 78 #[fv V, .int .i64 (bit : Int)] rfl (by go_simp) rfl ((KW.out w).mono ?_)
    rintro e w' ⟨rfl, hb⟩
    exact ⟨_, rfl, rfl, hb⟩
   refine .cons (fun u w L hL hS hBw hd => ?_) ?_
   ·have d38 : u 38 = .tuple #[t3v T, .bool q] := depB hd 6 rfl
    rw [d38]
    exact GB.run 31 rfl (.tuple #[t3v T, .bool q]) rfl (by go_simp) rfl rfl
   refine .cons (fun u w L hL hS hBw hd => ?_) ?_
   ·have d31 : u 31 = .tuple #[t3v T, .bool q] := depB hd 7 rfl
    rw [d31]
    exact GB.run 39 rfl (t3v T) rfl (by go_simp) rfl rfl
   refine .cons (fun u w L hL hS hBw hd => ?_) ?_
   ·have d31 : u 31 = .tuple #[t3v T, .bool q] := depB hd 7 rfl
    rw [d31]
    exact GB.run 40 rfl (.bool q) rfl (by go_simp) rfl rfl
   refine .cons (fun u w L hL hS hBw hd => ?_) ?_
   ·exact GB.alloc 7 rfl rfl #[.int .i64 0, .int .i64 0, .int .i64 0, .int .i64 0, .int .i64 0, .int .i64 0, .int .i64 0, .int .i64 0, .int .i64 0, .int .i64 0, .int .i64 0, .int .i64 0, .int .i64 0, .int .i64 0, .int .i64 0, .int .i64 0, .int .i64 0, .int .i64 0, .int .i64 0, .int .i64 0, .int .i64 0, .int .i64 0, .int .i64 0, .int .i64 0, .int .i64 0, .int .i64 0, .int .i64 0, .int .i64 0, .int .i64 0, .int .i64 0, .int .i64 0, .int .i64 0, .int .i64 0, .int .i64 0, .int .i64 0, .int .i64 0, .int .i64 0, .int .i64 0, .int .i64 0, .int .i64 0, .int .i64 0, .int .i64 0, .int .i64 0, .int .i64 0, .int .i64 0, .int .i64 0, .int .i64 0, .int .i64 0] 70 48 (fun _ => .int .i64 0) rfl rfl (by go_simp) hBw (by decide) rfl
   refine .cons (fun u w L hL hS hBw hd => ?_) ?_
   ·have d39 : u 39 = t3v T := depB hd 8 rfl
    obtain ⟨g, fg, e7, o7⟩ : (Fact.box 70 48).ok v5.heap.size [some 32, some 33, some 34, some 35, some 36, some 37, some 38, some 31, some 39, some 40, some 7, none, some 8] 10 u w L := depB hd 10 rfl
    exact GB.store rfl 10 g 70 48 (t3f T) rfl rfl rfl e7 (run_t3store rfl (by exact e7) (by exact d39) o7) (t3_only w g T) (t3put o7 T)
   refine .cons (fun u w L hL hS hBw hd => ?_) ?_
   ·have d40 : u 40 = .bool q := depB hd 9 rfl
    rw [d40]
    exact GB.run 8 rfl (.bool q) rfl (by go_simp) rfl rfl
   exact ObsB.nil
  intro uy1 y1 hS hd
  obtain ⟨g7, eg7, o7⟩ : (Fact.holds 10 70 48 (t3f T)).ok v5.heap.size [some 32, some 33, some 34, some 35, some 36, some 37, some 38, some 31, some 39, some 40, some 7, none, some 8] 11 uy1 y1 (fun _ => true) := hd 11 (by decide)
  replace eg7 : uy1 7 = .pointer (some ⟨g7, 0, none⟩) := eg7
  replace o7 : O48 y1 v5.heap.size g7 T := o7
  replace o7 := o7.mono hc.size
  replace o5 := O16.keep o5 hS
  replace o2 := OwnF.keep o2 hS
  replace hc := bnx hc hS
  have d8 : uy1 8 = .bool q := hd 12 (by decide)
  rw [eg7, d8]
  clear hS hd eg7 d8
  simp only [List.drop_succ_cons, List.drop_zero]
  cases q
  ·have hR : RT = ⟨0, 0, 0⟩ := HQ.out rfl
   have hE7 := EE2.out
   rw [if_neg (by decide)] at hE7
   have HF := Lib.hid (hc.trans (t3_below o2 (⟨0, 0, 0⟩)))
   have HR := Lib.hid (t3_put o2 (⟨0, 0, 0⟩))
   have EX := Lib.hid (And.intro hR hE7)
   clear hR hE7 o7 o5
   go_wp2_with (first | (with_reducible refine t3_zero ?_) | ((with_reducible refine t3_store o2 (⟨0, 0, 0⟩) ?_ ?_ ?_); rfl; rfl))
   exact bodyPost_ret (t3_res2 Tryz.results37 _ HR.out rfl rfl) rfl ⟨by rw [EX.out.1, EX.out.2]; rfl, HF.out⟩
  ·have hE7 := EE2.out
   rw [if_pos rfl] at hE7
   have HF := Lib.hid (hc.trans (t3_below o2 T))
   have HR := Lib.hid (t3_put o2 T)
   have EX := Lib.hid (And.intro HT.out hE7)
   clear hE7 o5
   go_wp2_with (first | ((with_reducible refine t3_load o7 ?_ ?_); rfl) | ((with_reducible refine t3_store o2 T ?_ ?_ ?_); rfl; rfl))
   exact bodyPost_ret (t3_res2 Tryz.results37 _ HR.out rfl rfl) rfl ⟨by rw [← EX.out.1, EX.out.2]; rfl, HF.out⟩
 ·rw [decide_eq_false hVP, if_neg (by decide), if_neg (by decide)] at KR
  have eT := ET.out
  have eE := EE.out
  rw [if_neg hVP] at eT eE
  have EX := Lib.hid (And.intro eT eE)
  clear eT eE ET EE hVP
  go_wp2_with fail
  go_at_call 77
  refine KR.out.mono ?_
  rintro e v4 ⟨rfl, h0⟩
  replace o2 := OwnF.keep o2 h0
  replace hc := bnx hc h0
  clear h0 KR
  have on0 : O16 (v4.alloc Z16) v4.heap.size v4.heap.size 0 := O16.zero (own_Z16 (Nat.le_refl _))
  have hbz := ((Below.refl _ v4).alloc (Nat.le_refl _) Z16).trans (on0.below 0)
  replace o2 := OwnF.keep o2 hbz
  replace hc := bnx hc hbz
  clear hbz
  have HF := Lib.hid (hc.trans (t3_below o2 (⟨0, 0, 0⟩)))
  have HR := Lib.hid (t3_put o2 (⟨0, 0, 0⟩))
  go_wp2_with (first | (with_reducible refine t3_zero ?_) | ((with_reducible refine fl_store on0 0 ?_ ?_ ?_); rfl; rfl) | ((with_reducible refine t3_store o2 (⟨0, 0, 0⟩) ?_ ?_ ?_); rfl; rfl))
  exact bodyPost_ret (t3_res2 Tryz.results37 _ HR.out rfl rfl) rfl ⟨by rw [EX.out.1, EX.out.2]; rfl, HF.out⟩
end
end Go.Proofs.YtkbkalhcdbklkaaGreatDoor
