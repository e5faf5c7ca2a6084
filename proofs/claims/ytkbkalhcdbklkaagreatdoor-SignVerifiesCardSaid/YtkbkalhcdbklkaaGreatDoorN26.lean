/-
  copy to a row of one's own; the code's pad, of both words (layer 6). Written by tools/gen_n26.py. By an AI agent.
-/
import Derived.Test.YtkbkalhcdbklkaaGreatDoorN25
import Derived.Laws.IdiomCopy
namespace Go.Proofs.YtkbkalhcdbklkaaGreatDoor
open Go Go.RowKit
set_option maxRecDepth 20000
def bvf (bs : List UInt8) (k : Nat) : Value := .int .u8 ((nth bs k : Nat) : Int)
theorem copy_arm {ops : Array Oper} {rest : List Oper} {o : Oper} {a : Act} {w : World} {Q : Exit → Act → World → Prop} (hgd : o.guard = none) (d s : Operand) (ho : o.op = .call { callee := .builtin .copy, args := #[d, s], argTypes := #[22, 22] })
  {B g C N off dl dc m : Nat} {e0 : TypeId} {f : Nat → Value} (h0 : OwnF w B e0 (some ⟨g, 0, none⟩) C N f) {B' c : Nat} {A : Option Addr} {bs : List UInt8} (hr : Rd w B' A c bs) (hm : m = Nat.min bs.length dl) (hfit : off + m ≤ N)
  (hd : a.eval d = .slice (some ⟨g, off, none⟩) dl dc) (hs : a.eval s = .slice A bs.length c) (h : wpList Tryz.prog ops Q rest (a.put o.dst (.int .i64 (m : Int))) (setA w g off m (bvf bs))) : wpList Tryz.prog ops Q (o :: rest) a w := by
 have hu : Tryz.prog.underlying 22 = some (.slice 5) := Tryz.underlying22
 have hsz : (Tryz.prog.info? 5).map (·.size) = some 1 := by kernel_rfl
 by_cases h0' : m = 0
 ·refine wpList_plain hgd fun K hK => ?_
  have hrun := run_copy_none (P := Tryz.prog) w 22 22 o.type 5 (some ⟨g, off, none⟩) A dl dc bs.length c hu hsz (by omega)
  unfold Oper.wp
  simp [execOp, ho, resolve, invoke, builtin, hd, hs, hrun, Result.andThen]
  subst h0'
  exact hK _ _ h
 ·have hbs : bs ≠ [] := by
   rintro rfl
   simp at hm
   omega
  have hml : m ≤ bs.length := by rw [hm]; exact Nat.min_le_left _ _
  obtain ⟨b, o', rfl, hb, hcell⟩ := hr.some_ hbs
  refine wpList_plain hgd fun K hK => ?_
  have hrun := run_copy_cells (P := Tryz.prog) w 22 22 o.type 5 g off dl dc ⟨b, o', none⟩ bs.length c (rl m (bvf bs)) hu hsz (by rw [rl_len]; exact hm)
   (by intro j v hv; have hj : j < m := by have := (List.getElem?_eq_some_iff.1 hv).1; rwa [rl_len] at this
       rw [rl_get hj, Option.some.injEq] at hv; subst hv; rw [Addr.add_mid]; exact hcell j (by omega))
   (by intro j hj; rw [rl_len] at hj; rw [OwnF.cell h0 (k := off + j) (by omega)]; rfl)
   (by intro j hj; exact OwnF.free h0 _)
   (by intro v hv; obtain ⟨k, hk, rfl⟩ := List.mem_map.1 hv; rfl)
  rw [rl_len] at hrun
  unfold Oper.wp
  simp [execOp, ho, resolve, invoke, builtin, hd, hs, hrun, Result.andThen]
  exact hK _ _ h
theorem copy_to {ops : Array Oper} {rest : List Oper} {a : Act} {w : World} {Q : Exit → Act → World → Prop} {d s : Operand} {dst : Option Nat} {tp : TypeId} {ps : String} {af : Array Edge}
  {B g C N off dl dc m : Nat} {e0 : TypeId} {f : Nat → Value} (h0 : OwnF w B e0 (some ⟨g, 0, none⟩) C N f) {B' c : Nat} {A : Option Addr} {bs : List UInt8} (hr : Rd w B' A c bs) (hm : m = Nat.min bs.length dl) (hfit : off + m ≤ N)
  (hd : a.eval d = .slice (some ⟨g, off, none⟩) dl dc) (hs : a.eval s = .slice A bs.length c) (h : wpList Tryz.prog ops Q rest (a.put dst (.int .i64 (m : Int))) (setA w g off m (bvf bs))) : wpList Tryz.prog ops Q (⟨dst, .call { callee := .builtin .copy, args := #[d, s], argTypes := #[22, 22] }, tp, ps, af, none⟩ :: rest) a w :=
 copy_arm rfl d s rfl h0 hr hm hfit hd hs h
theorem rd_own {w : World} {B g C N : Nat} {e : TypeId} {f : Nat → Value} {P : List UInt8} (o : OwnF w B e (some ⟨g, 0, none⟩) C N f) (hl : P.length = N) (hc : N ≤ C) (hf : ∀ k, k < N → f k = .int .u8 ((nth P k : Nat) : Int)) : Rd w w.heap.size (some ⟨g, 0, none⟩) C P :=
 ⟨by omega, fun h => by simp at h, fun _ => ⟨g, 0, rfl, OwnF.lt o, fun k hk => by rw [Nat.zero_add, OwnF.cell o (by omega), hf k (by omega)]⟩⟩
theorem sub_at {g o c l : Nat} (h : c ≠ l) : subA (some ⟨g, o, none⟩) c l = some ⟨g, o + l, none⟩ := by
 unfold subA
 rw [if_neg h]
 simp [Addr.add_mid]
theorem slice_op_at {o : Oper} {a : Act} {w : World} {x lo hi : Operand} {g n c l h m : Nat} (ho : o.op = .slice 22 x (some lo) (some hi) none) (e1 : a.eval x = .slice (some ⟨g, 0, none⟩) n c) (e2 : a.eval lo = .int .i64 (l : Int)) (e3 : a.eval hi = .int .i64 (h : Int)) (h1 : l ≤ h) (h2 : h ≤ c) (hm : h - l = m) (hc : c ≠ l) :
  (execOp a.eval o).run Tryz.prog w = .ok (.value (.slice (some ⟨g, l, none⟩) m (c - l))) w := by
 have h3 := slice_op_n (w := w) ho e1 e2 e3 h1 h2 hm
 rwa [sub_at hc, Nat.zero_add] at h3
theorem nth_app_left {P Q : List UInt8} {k : Nat} (h : k < P.length) : nth (P ++ Q) k = nth P k := by unfold nth; rw [List.getElem?_append_left h]
theorem nth_app_right {P Q : List UInt8} {k : Nat} (h : P.length ≤ k) : nth (P ++ Q) k = nth Q (k - P.length) := by unfold nth; rw [List.getElem?_append_right h]
theorem nth_rep {n k : Nat} : nth (List.replicate n 0) k = 0 := by
 unfold nth
 rw [List.getElem?_replicate]
 split <;> rfl
theorem nth_padR {S : Ks} (rest : List UInt8) (all k : Nat) (hk : k < (padR S rest all).length) :
  nth (padR S rest all) k = if k < rest.length then nth rest k else if k = rest.length then 128 else if (padR S rest all).length ≤ k + 8 then all * 8 / 2 ^ (8 * ((padR S rest all).length - 1 - k)) % 256 else 0 := by
 have hl : (pz rest (zc S rest.length + (S.bits / 4 - 8))).length + 8 = (padR S rest all).length := by unfold padR; rw [List.length_append, gen_length]
 have hp := pz_length rest (zc S rest.length + (S.bits / 4 - 8))
 generalize hL : (padR S rest all).length = L at *
 unfold padR
 generalize hN : zc S rest.length + (S.bits / 4 - 8) = N at *
 by_cases h1 : k < rest.length
 ·rw [if_pos h1, nth_app_left (by omega)]
  unfold pz
  rw [nth_app_left h1]
 ·rw [if_neg h1]
  by_cases h2 : k = rest.length
  ·rw [if_pos h2, nth_app_left (by omega)]
   unfold pz
   rw [nth_app_right (by omega), h2, Nat.sub_self]
   rfl
  ·rw [if_neg h2]
   by_cases h3 : L ≤ k + 8
   ·rw [if_pos h3, nth_app_right (by omega), nth_gen (by omega), lb_nat, show 7 - (k - (pz rest N).length) = L - 1 - k by omega]
   ·rw [if_neg h3, nth_app_left (by omega)]
    unfold pz
    rw [nth_app_right (by omega), show k - rest.length = (k - rest.length - 1) + 1 by omega]
    show nth (List.replicate N 0) _ = 0
    exact nth_rep
theorem pad_len_32 {rest : List UInt8} {all : Nat} (hr : rest.length < 64) : (padR smallS rest all).length = if rest.length + 1 + 8 > 64 then 128 else 64 := by
 have h := (padR_length (S := smallS) (by first | exact .inl rfl | exact .inr rfl) rest all).2
 rw [h]
 show rest.length + 1 + (64 - (rest.length + 1 + 8) % 64) % 64 + 8 = _
 split <;> omega
def pcell32 (rest : List UInt8) (L hi lo : Nat) : Nat → Value := bput (bput (fun j => if j = rest.length then .int .u8 128 else fput (fun _ => .int .u8 0) 0 rest.length (bvf rest) j) (L - 8) 4 hi 4) (L - 4) 4 lo 4
theorem pcell32_is {rest : List UInt8} {all : Nat} (hr : rest.length < 64) (ha : all ≤ 281474976710656) (j : Nat) (hj : j < (padR smallS rest all).length) :
  pcell32 rest (padR smallS rest all).length (all / 536870912 % 4294967296) (all * 8 % 4294967296) j = .int .u8 ((nth (padR smallS rest all) j : Nat) : Int) := by
 have hL := pad_len_32 (all := all) hr
 rw [nth_padR (S := smallS) rest all j hj]
 generalize (padR smallS rest all).length = L at *
 have hL2 : rest.length + 1 + 8 ≤ L ∧ 64 ≤ L := by split at hL <;> omega
 unfold pcell32 bput fput bvf bb
 by_cases h1 : j < rest.length
 ·rw [if_pos h1, if_neg (by omega), if_neg (by omega)]
  dsimp only
  rw [if_neg (by omega), if_pos (by omega), Nat.sub_zero]
 ·rw [if_neg h1]
  by_cases h2 : j = rest.length
  ·rw [if_pos h2, if_neg (by omega), if_neg (by omega)]
   dsimp only
   rw [if_pos h2]
   rfl
  ·rw [if_neg h2]
   by_cases h3 : L ≤ j + 4
   ·rw [if_pos (by omega), if_pos (by omega), show L - 4 + 4 - 1 - j = L - 1 - j by omega]
    obtain ⟨i, hi⟩ : ∃ i, i = L - 1 - j := ⟨_, rfl⟩
    rw [← hi]
    have hi4 : i < 4 := by omega
    clear hi
    congr 2
    rcases (show i = 0 ∨ i = 1 ∨ i = 2 ∨ i = 3 by omega) with rfl | rfl | rfl | rfl <;> (simp only [Nat.reduceMul, Nat.reducePow]; omega)
   ·rw [if_neg (by omega)]
    by_cases h4 : L ≤ j + 8
    ·rw [if_pos (by omega), show L - 8 + 4 - 1 - j = L - 4 - 1 - j by omega]
     obtain ⟨i, hi⟩ : ∃ i, i = L - 4 - 1 - j := ⟨_, rfl⟩
     rw [← hi]
     have hi4 : i < 4 := by omega
     rw [if_pos (by omega), show L - 1 - j = i + 4 by omega]
     clear hi
     congr 2
     rcases (show i = 0 ∨ i = 1 ∨ i = 2 ∨ i = 3 by omega) with rfl | rfl | rfl | rfl <;> (simp only [Nat.reduceMul, Nat.reducePow, Nat.reduceAdd]; omega)
    ·rw [if_neg (by omega)]
     dsimp only
     rw [if_neg h2, if_neg (by omega), if_neg (by omega)]
     rfl
theorem pad_len_64 {rest : List UInt8} {all : Nat} (hr : rest.length < 128) : (padR greatS rest all).length = if rest.length + 1 + 16 > 128 then 256 else 128 := by
 have h := (padR_length (S := greatS) (by first | exact .inl rfl | exact .inr rfl) rest all).2
 rw [h]
 show rest.length + 1 + (128 - (rest.length + 1 + 16) % 128) % 128 + 16 = _
 split <;> omega
def pcell64 (rest : List UInt8) (L hi lo : Nat) : Nat → Value := bput (bput (fun j => if j = rest.length then .int .u8 128 else fput (fun _ => .int .u8 0) 0 rest.length (bvf rest) j) (L - 16) 8 hi 8) (L - 8) 8 lo 8
theorem pcell64_is {rest : List UInt8} {all : Nat} (hr : rest.length < 128) (ha : all ≤ 281474976710656) (j : Nat) (hj : j < (padR greatS rest all).length) :
  pcell64 rest (padR greatS rest all).length (all / 2305843009213693952 % 18446744073709551616) (all * 8 % 18446744073709551616) j = .int .u8 ((nth (padR greatS rest all) j : Nat) : Int) := by
 have hL := pad_len_64 (all := all) hr
 rw [nth_padR (S := greatS) rest all j hj]
 generalize (padR greatS rest all).length = L at *
 have hL2 : rest.length + 1 + 16 ≤ L ∧ 128 ≤ L := by split at hL <;> omega
 unfold pcell64 bput fput bvf bb
 by_cases h1 : j < rest.length
 ·rw [if_pos h1, if_neg (by omega), if_neg (by omega)]
  dsimp only
  rw [if_neg (by omega), if_pos (by omega), Nat.sub_zero]
 ·rw [if_neg h1]
  by_cases h2 : j = rest.length
  ·rw [if_pos h2, if_neg (by omega), if_neg (by omega)]
   dsimp only
   rw [if_pos h2]
   rfl
  ·rw [if_neg h2]
   by_cases h3 : L ≤ j + 8
   ·rw [if_pos (by omega), if_pos (by omega), show L - 8 + 8 - 1 - j = L - 1 - j by omega]
    obtain ⟨i, hi⟩ : ∃ i, i = L - 1 - j := ⟨_, rfl⟩
    rw [← hi]
    have hi4 : i < 8 := by omega
    clear hi
    congr 2
    rcases (show i = 0 ∨ i = 1 ∨ i = 2 ∨ i = 3 ∨ i = 4 ∨ i = 5 ∨ i = 6 ∨ i = 7 by omega) with rfl | rfl | rfl | rfl | rfl | rfl | rfl | rfl <;> (simp only [Nat.reduceMul, Nat.reducePow]; omega)
   ·rw [if_neg (by omega)]
    by_cases h4 : L ≤ j + 16
    ·rw [if_pos (by omega), show L - 16 + 8 - 1 - j = L - 8 - 1 - j by omega]
     obtain ⟨i, hi⟩ : ∃ i, i = L - 8 - 1 - j := ⟨_, rfl⟩
     rw [← hi]
     have hi4 : i < 8 := by omega
     rw [if_neg (by omega), show all / 2305843009213693952 = 0 by omega]
     simp
    ·rw [if_neg (by omega)]
     dsimp only
     rw [if_neg h2, if_neg (by omega), if_neg (by omega)]
     rfl
section
attribute [local irreducible] rl setA subA bvf padR bput fput
end
section
attribute [local irreducible] rl setA subA bvf padR bput fput
set_option maxHeartbeats 3200000 in
theorem pad_64 {A0 : Option Addr} {B c0 all : Nat} {rest : List UInt8} (hlen : rest.length < 128) (ha : all ≤ 281474976710656) (w : World) (hr : Rd w B A0 c0 rest) (hB : B ≤ w.heap.size) :
  Calls Tryz.prog 120 #[.slice A0 rest.length c0, .int .u64 (all : Int)] w fun e w' => ∃ g, e = .returned (.slice (some ⟨g, 0, none⟩) (padR greatS rest all).length (padR greatS rest all).length) ∧ Rd w' w'.heap.size (some ⟨g, 0, none⟩) (padR greatS rest all).length (padR greatS rest all) ∧ Below w.heap.size w w' := by
 obtain ⟨i0, hi0', hz0, hz1, hz2⟩ := info_parts infoB6
 have hL := pad_len_64 (all := all) hlen
 have PC := Lib.hid (fun j hj => pcell64_is (all := all) hlen ha j hj)
 unfold pcell64 at PC
 obtain ⟨hi0, eh0⟩ : ∃ x, x = all / 2305843009213693952 := ⟨_, rfl⟩
 obtain ⟨hi, eh⟩ : ∃ x, x = hi0 % 18446744073709551616 := ⟨_, rfl⟩
 obtain ⟨lo, elo⟩ : ∃ x, x = all * 8 % 18446744073709551616 := ⟨_, rfl⟩
 obtain ⟨al8, ela⟩ : ∃ x, x = all * 8 := ⟨_, rfl⟩
 rw [← eh0, ← eh, ← elo] at PC
 have SH := Lib.hid (show (all : Int) / 2305843009213693952 = (hi0 : Int) by omega)
 have hi64 : hi = hi0 ∨ 64 = 32 := by first | exact .inr rfl | (left; omega)
 have el2 : IntKind.u64.wrap ((all : Int) * 8) = (al8 : Int) := by rw [IntKind.wrap_u64]; omega
 have el4 : 64 = 64 → al8 = lo := fun h => by first | (exfalso; omega) | omega
 obtain ⟨r1, er1⟩ : ∃ x, x = rest.length + 1 := ⟨_, rfl⟩
 obtain ⟨q, eq⟩ : ∃ x, x = r1 + 16 := ⟨_, rfl⟩
 have f1 : IntKind.i64.wrap ((rest.length : Int) + 1) = (r1 : Int) := by rw [IntKind.wrap_i64]; omega
 have f2 : IntKind.i64.wrap ((r1 : Int) + 16) = (q : Int) := by rw [IntKind.wrap_i64]; omega
 have f3 : IntKind.i64.wrap 16 = 16 := rfl
 have f4 : IntKind.i64.wrap 128 = 128 := rfl
 obtain rfl : hi = hi0 := by omega
 obtain rfl : al8 = lo := el4 rfl
 clear eh elo eh0 ela
 go_enter Tryz.func120, Tryz.ntmps120
 go_wp2_with fail
 go_at_call 121
 refine (size_64 _).mono ?_
 rintro e v0 ⟨rfl, e0⟩
 subst v0
 by_cases hbig : rest.length + 1 + 16 > 128
 ·skip
  have g1 : 128 < (q : Int) := by omega
  have hrl : (rest.length : Int) < 256 := by omega
  have hrn : rest.length < 256 := by omega
  have hLe : (padR greatS rest all).length = 256 := by rw [hL]; first | rw [if_pos (by omega)] | rw [if_neg (by omega)]
  have HRN := Lib.hid hrn
  clear er1 eq hrn hlen ha hbig hL
  have hmk := run_mk (P := Tryz.prog) 22 5 i0 Tryz.underlying22 hi0' hz0 hz1 hz2 (l := 256) (n := 256) rfl (by omega)
  have hw1 : IntKind.i64.wrap 256 = 256 := rfl
  have o1 := OwnF.made (w := w) (B := w.heap.size) 5 (.int .u8 0) (n := 256) (Nat.le_refl _) (by decide)
  have hc := (Below.refl w.heap.size w).alloc (Nat.le_refl _) (.cells (madeCells #[.int .u8 0] 256) 5)
  have hr1 := hr.keep ((Below.refl B w).alloc hB (.cells (madeCells #[.int .u8 0] 256) 5))
  go_upto_region 6 with fail
  obtain ⟨v1, e1⟩ : ∃ v, v = w.alloc (.cells (madeCells #[.int .u8 0] 256) 5) := ⟨_, rfl⟩
  rw [← e1] at o1 hc hr1 ⊢
  obtain ⟨g, eg⟩ : ∃ g, g = w.heap.size := ⟨_, rfl⟩
  replace o1 : OwnF v1 w.heap.size 5 (some ⟨g, 0, none⟩) 256 256 (fun _ => .int .u8 0) := by rw [eg]; exact o1
  rw [show Value.slice (some ⟨w.heap.size, 0, none⟩) 256 256 = .slice (some ⟨g, 0, none⟩) 256 256 by rw [eg]]
  clear e1 eg hmk
  have o2 := av_put o1 0 rest.length (bvf rest)
  have hb2 := (av_only v1 g 0 rest.length (bvf rest)).below (OwnF.ge o1)
  have cc := OwnF.cell o2 (k := rest.length) HRN.out
  have ff := OwnF.free o2 rest.length
  have o3 := Lib.hid (OwnF.set_ o2 rest.length (.int .u8 128))
  have hb3 := Lib.hid ((hc.trans hb2).trans ((Only.setCell (setA v1 g 0 rest.length (bvf rest)) ⟨g, rest.length, none⟩ (.int .u8 128)).below (OwnF.ge o1)))
  have hmin := Lib.hid (show rest.length = Nat.min rest.length 256 from (Nat.min_eq_left (Nat.le_of_lt HRN.out)).symm)
  have hfit := Lib.hid (show 0 + rest.length ≤ 256 by have := HRN.out; omega)
  have HCP := Lib.hid (fun (ops : Array Oper) (rest2 : List Oper) (a : Act) (Q : Exit → Act → World → Prop) (d s : Operand) (dst : Option Nat) (tp : TypeId) (ps : String) (af : Array Edge) => copy_to (ops := ops) (rest := rest2) (a := a) (Q := Q) (d := d) (s := s) (dst := dst) (tp := tp) (ps := ps) (af := af) (off := 0) (dc := 256) o1 hr1 hmin.out hfit.out)
  clear o2 hb2
  go_upto_region 8 with ((refine HCP.out _ _ _ _ _ _ _ _ _ _ ?_ ?_ ?_); rfl; rfl)
  obtain ⟨v3, e3⟩ : ∃ v, v = (setA v1 g 0 rest.length (bvf rest)).setCell ⟨g, rest.length, none⟩ (.int .u8 128) := ⟨_, rfl⟩
  have o3' := o3.out
  have hb3' := hb3.out
  rw [← e3] at o3' hb3' ⊢
  clear e3 o3 hb3 cc ff HCP o1 hc hr1
  refine wp_region_inv 14 [30, 31, 32, 33, 34, 35, 36, 37, 38, 39, 40, 41, 42, 43] [.val (.slice (some ⟨g, 0, none⟩) 256 256), .val (.int .i64 256), .val (.int .i64 8), .val (.int .i64 16), .val (.int .i64 240), .val (.int .i64 256), .val (.int .i64 8), .val (.int .i64 248), .val (.slice (some ⟨g, 240, none⟩) 8 16), .val (.int .u64 (all : Int)), .val (.int .i64 8), .val (.int .i64 64), .val (.int .i64 61), .val (.int .u64 (hi : Int))] (fun wz => Below v3.heap.size v3 wz) (by kernel_rfl) (by kernel_rfl) (fun wz wz' hz hb => bnx hz hb) ((Below.refl _ _).drew) (fun u => by simp only [puts, List.foldl_cons, List.foldl_nil]; go_simp; exact rfl) ?_ ?_
  ·simp only [List.take_succ_cons, List.take_zero]
   refine .cons (fun u w hS hd => ?_) ?_
   ·exact Gv.run (.slice (some ⟨g, 0, none⟩) 256 256) rfl (by go_simp) rfl
   refine .cons (fun u w hS hd => ?_) ?_
   ·exact Gv.run (.int .i64 256) rfl (by go_simp) rfl
   refine .cons (fun u w hS hd => ?_) ?_
   ·exact Gv.run (.int .i64 8) rfl (by go_simp) rfl
   refine .cons (fun u w hS hd => ?_) ?_
   ·have d32 : u 32 = .int .i64 8 := dep hd 2 rfl
    rw [d32]
    have hq : IntKind.i64.wrap 16 = 16 := rfl
    exact Gv.run (.int .i64 16) rfl (by go_simp) rfl
   refine .cons (fun u w hS hd => ?_) ?_
   ·have d31 : u 31 = .int .i64 256 := dep hd 1 rfl
    have d33 : u 33 = .int .i64 16 := dep hd 3 rfl
    rw [d31, d33]
    have hq : IntKind.i64.wrap 240 = 240 := rfl
    exact Gv.run (.int .i64 240) rfl (by go_simp) rfl
   refine .cons (fun u w hS hd => ?_) ?_
   ·exact Gv.run (.int .i64 256) rfl (by go_simp) rfl
   refine .cons (fun u w hS hd => ?_) ?_
   ·exact Gv.run (.int .i64 8) rfl (by go_simp) rfl
   refine .cons (fun u w hS hd => ?_) ?_
   ·have d35 : u 35 = .int .i64 256 := dep hd 5 rfl
    have d36 : u 36 = .int .i64 8 := dep hd 6 rfl
    rw [d35, d36]
    have hq : IntKind.i64.wrap 248 = 248 := rfl
    exact Gv.run (.int .i64 248) rfl (by go_simp) rfl
   refine .cons (fun u w hS hd => ?_) ?_
   ·have d30 : u 30 = .slice (some ⟨g, 0, none⟩) 256 256 := dep hd 0 rfl
    have d34 : u 34 = .int .i64 240 := dep hd 4 rfl
    have d37 : u 37 = .int .i64 248 := dep hd 7 rfl
    rw [d30, d34, d37]
    exact Gv.run (.slice (some ⟨g, 240, none⟩) 8 16) rfl (by go_simp) rfl
   refine .cons (fun u w hS hd => ?_) ?_
   ·exact Gv.run (.int .u64 (all : Int)) rfl (by go_simp) rfl
   refine .cons (fun u w hS hd => ?_) ?_
   ·exact Gv.run (.int .i64 8) rfl (by go_simp) rfl
   refine .cons (fun u w hS hd => ?_) ?_
   ·have d40 : u 40 = .int .i64 8 := dep hd 10 rfl
    rw [d40]
    have hq : IntKind.i64.wrap 64 = 64 := rfl
    exact Gv.run (.int .i64 64) rfl (by go_simp) rfl
   refine .cons (fun u w hS hd => ?_) ?_
   ·have d41 : u 41 = .int .i64 64 := dep hd 11 rfl
    rw [d41]
    have hq : IntKind.i64.wrap 61 = 61 := rfl
    exact Gv.run (.int .i64 61) rfl (by go_simp) rfl
   refine .cons (fun u w hS hd => ?_) ?_
   ·have d39 : u 39 = .int .u64 (all : Int) := dep hd 9 rfl
    have d42 : u 42 = .int .i64 61 := dep hd 12 rfl
    rw [d39, d42]
    have hq := SH.out
    exact Gv.run (.int .u64 (hi : Int)) rfl (by go_simp) rfl
   exact Obs.nil
  intro u wz hS hd
  have d38 : u 38 = .slice (some ⟨g, 240, none⟩) 8 16 := hd 8 (by decide)
  have d43 : u 43 = .int .u64 (hi : Int) := hd 13 (by decide)
  rw [d38, d43]
  clear hd
  have o4 := OwnF.keep o3' hS
  have hb4 := bnx hb3' hS
  clear hS o3' hb3'
  simp only [List.drop_succ_cons, List.drop_zero]
  go_wp2_with fail
  go_at_call 122
  refine (put_64 (o := 240) (N := 256) (by decide) wz o4).mono ?_
  rintro e w5 ⟨rfl, o5, h5⟩
  replace hb4 := hb4.trans (h5.below (OwnF.ge o4))
  clear h5 o4
  have hw9 : IntKind.i64.wrap 248 = 248 := rfl
  go_wp2_with fail
  go_at_call 122
  refine (put_64 (o := 248) (N := 256) (by decide) _ o5).mono ?_
  rintro e w6 ⟨rfl, o6, h6⟩
  replace hb4 := hb4.trans (h6.below (OwnF.ge o5))
  clear h6 o5
  go_wp2_with fail
  go_ret
  rw [hLe]
  refine ⟨g, rfl, rd_own o6 hLe (Nat.le_refl _) fun k hk => ?_, hb4⟩
  have hp := PC.out k (by rw [hLe]; exact hk)
  rw [hLe] at hp
  exact hp
 ·skip
  have g1 : ¬ 128 < (q : Int) := by omega
  have hrl : (rest.length : Int) < 128 := by omega
  have hrn : rest.length < 128 := by omega
  have hLe : (padR greatS rest all).length = 128 := by rw [hL]; first | rw [if_pos (by omega)] | rw [if_neg (by omega)]
  have HRN := Lib.hid hrn
  clear er1 eq hrn hlen ha hbig hL
  have hmk := run_mk (P := Tryz.prog) 22 5 i0 Tryz.underlying22 hi0' hz0 hz1 hz2 (l := 128) (n := 128) rfl (by omega)
  have hw1 : IntKind.i64.wrap 128 = 128 := rfl
  have o1 := OwnF.made (w := w) (B := w.heap.size) 5 (.int .u8 0) (n := 128) (Nat.le_refl _) (by decide)
  have hc := (Below.refl w.heap.size w).alloc (Nat.le_refl _) (.cells (madeCells #[.int .u8 0] 128) 5)
  have hr1 := hr.keep ((Below.refl B w).alloc hB (.cells (madeCells #[.int .u8 0] 128) 5))
  go_upto_region 6 with fail
  obtain ⟨v1, e1⟩ : ∃ v, v = w.alloc (.cells (madeCells #[.int .u8 0] 128) 5) := ⟨_, rfl⟩
  rw [← e1] at o1 hc hr1 ⊢
  obtain ⟨g, eg⟩ : ∃ g, g = w.heap.size := ⟨_, rfl⟩
  replace o1 : OwnF v1 w.heap.size 5 (some ⟨g, 0, none⟩) 128 128 (fun _ => .int .u8 0) := by rw [eg]; exact o1
  rw [show Value.slice (some ⟨w.heap.size, 0, none⟩) 128 128 = .slice (some ⟨g, 0, none⟩) 128 128 by rw [eg]]
  clear e1 eg hmk
  have o2 := av_put o1 0 rest.length (bvf rest)
  have hb2 := (av_only v1 g 0 rest.length (bvf rest)).below (OwnF.ge o1)
  have cc := OwnF.cell o2 (k := rest.length) HRN.out
  have ff := OwnF.free o2 rest.length
  have o3 := Lib.hid (OwnF.set_ o2 rest.length (.int .u8 128))
  have hb3 := Lib.hid ((hc.trans hb2).trans ((Only.setCell (setA v1 g 0 rest.length (bvf rest)) ⟨g, rest.length, none⟩ (.int .u8 128)).below (OwnF.ge o1)))
  have hmin := Lib.hid (show rest.length = Nat.min rest.length 128 from (Nat.min_eq_left (Nat.le_of_lt HRN.out)).symm)
  have hfit := Lib.hid (show 0 + rest.length ≤ 128 by have := HRN.out; omega)
  have HCP := Lib.hid (fun (ops : Array Oper) (rest2 : List Oper) (a : Act) (Q : Exit → Act → World → Prop) (d s : Operand) (dst : Option Nat) (tp : TypeId) (ps : String) (af : Array Edge) => copy_to (ops := ops) (rest := rest2) (a := a) (Q := Q) (d := d) (s := s) (dst := dst) (tp := tp) (ps := ps) (af := af) (off := 0) (dc := 128) o1 hr1 hmin.out hfit.out)
  clear o2 hb2
  go_upto_region 8 with ((refine HCP.out _ _ _ _ _ _ _ _ _ _ ?_ ?_ ?_); rfl; rfl)
  obtain ⟨v3, e3⟩ : ∃ v, v = (setA v1 g 0 rest.length (bvf rest)).setCell ⟨g, rest.length, none⟩ (.int .u8 128) := ⟨_, rfl⟩
  have o3' := o3.out
  have hb3' := hb3.out
  rw [← e3] at o3' hb3' ⊢
  clear e3 o3 hb3 cc ff HCP o1 hc hr1
  refine wp_region_inv 14 [30, 31, 32, 33, 34, 35, 36, 37, 38, 39, 40, 41, 42, 43] [.val (.slice (some ⟨g, 0, none⟩) 128 128), .val (.int .i64 128), .val (.int .i64 8), .val (.int .i64 16), .val (.int .i64 112), .val (.int .i64 128), .val (.int .i64 8), .val (.int .i64 120), .val (.slice (some ⟨g, 112, none⟩) 8 16), .val (.int .u64 (all : Int)), .val (.int .i64 8), .val (.int .i64 64), .val (.int .i64 61), .val (.int .u64 (hi : Int))] (fun wz => Below v3.heap.size v3 wz) (by kernel_rfl) (by kernel_rfl) (fun wz wz' hz hb => bnx hz hb) ((Below.refl _ _).drew) (fun u => by simp only [puts, List.foldl_cons, List.foldl_nil]; go_simp; exact rfl) ?_ ?_
  ·simp only [List.take_succ_cons, List.take_zero]
   refine .cons (fun u w hS hd => ?_) ?_
   ·exact Gv.run (.slice (some ⟨g, 0, none⟩) 128 128) rfl (by go_simp) rfl
   refine .cons (fun u w hS hd => ?_) ?_
   ·exact Gv.run (.int .i64 128) rfl (by go_simp) rfl
   refine .cons (fun u w hS hd => ?_) ?_
   ·exact Gv.run (.int .i64 8) rfl (by go_simp) rfl
   refine .cons (fun u w hS hd => ?_) ?_
   ·have d32 : u 32 = .int .i64 8 := dep hd 2 rfl
    rw [d32]
    have hq : IntKind.i64.wrap 16 = 16 := rfl
    exact Gv.run (.int .i64 16) rfl (by go_simp) rfl
   refine .cons (fun u w hS hd => ?_) ?_
   ·have d31 : u 31 = .int .i64 128 := dep hd 1 rfl
    have d33 : u 33 = .int .i64 16 := dep hd 3 rfl
    rw [d31, d33]
    have hq : IntKind.i64.wrap 112 = 112 := rfl
    exact Gv.run (.int .i64 112) rfl (by go_simp) rfl
   refine .cons (fun u w hS hd => ?_) ?_
   ·exact Gv.run (.int .i64 128) rfl (by go_simp) rfl
   refine .cons (fun u w hS hd => ?_) ?_
   ·exact Gv.run (.int .i64 8) rfl (by go_simp) rfl
   refine .cons (fun u w hS hd => ?_) ?_
   ·have d35 : u 35 = .int .i64 128 := dep hd 5 rfl
    have d36 : u 36 = .int .i64 8 := dep hd 6 rfl
    rw [d35, d36]
    have hq : IntKind.i64.wrap 120 = 120 := rfl
    exact Gv.run (.int .i64 120) rfl (by go_simp) rfl
   refine .cons (fun u w hS hd => ?_) ?_
   ·have d30 : u 30 = .slice (some ⟨g, 0, none⟩) 128 128 := dep hd 0 rfl
    have d34 : u 34 = .int .i64 112 := dep hd 4 rfl
    have d37 : u 37 = .int .i64 120 := dep hd 7 rfl
    rw [d30, d34, d37]
    exact Gv.run (.slice (some ⟨g, 112, none⟩) 8 16) rfl (by go_simp) rfl
   refine .cons (fun u w hS hd => ?_) ?_
   ·exact Gv.run (.int .u64 (all : Int)) rfl (by go_simp) rfl
   refine .cons (fun u w hS hd => ?_) ?_
   ·exact Gv.run (.int .i64 8) rfl (by go_simp) rfl
   refine .cons (fun u w hS hd => ?_) ?_
   ·have d40 : u 40 = .int .i64 8 := dep hd 10 rfl
    rw [d40]
    have hq : IntKind.i64.wrap 64 = 64 := rfl
    exact Gv.run (.int .i64 64) rfl (by go_simp) rfl
   refine .cons (fun u w hS hd => ?_) ?_
   ·have d41 : u 41 = .int .i64 64 := dep hd 11 rfl
    rw [d41]
    have hq : IntKind.i64.wrap 61 = 61 := rfl
    exact Gv.run (.int .i64 61) rfl (by go_simp) rfl
   refine .cons (fun u w hS hd => ?_) ?_
   ·have d39 : u 39 = .int .u64 (all : Int) := dep hd 9 rfl
    have d42 : u 42 = .int .i64 61 := dep hd 12 rfl
    rw [d39, d42]
    have hq := SH.out
    exact Gv.run (.int .u64 (hi : Int)) rfl (by go_simp) rfl
   exact Obs.nil
  intro u wz hS hd
  have d38 : u 38 = .slice (some ⟨g, 112, none⟩) 8 16 := hd 8 (by decide)
  have d43 : u 43 = .int .u64 (hi : Int) := hd 13 (by decide)
  rw [d38, d43]
  clear hd
  have o4 := OwnF.keep o3' hS
  have hb4 := bnx hb3' hS
  clear hS o3' hb3'
  simp only [List.drop_succ_cons, List.drop_zero]
  go_wp2_with fail
  go_at_call 122
  refine (put_64 (o := 112) (N := 128) (by decide) wz o4).mono ?_
  rintro e w5 ⟨rfl, o5, h5⟩
  replace hb4 := hb4.trans (h5.below (OwnF.ge o4))
  clear h5 o4
  have hw9 : IntKind.i64.wrap 120 = 120 := rfl
  go_wp2_with fail
  go_at_call 122
  refine (put_64 (o := 120) (N := 128) (by decide) _ o5).mono ?_
  rintro e w6 ⟨rfl, o6, h6⟩
  replace hb4 := hb4.trans (h6.below (OwnF.ge o5))
  clear h6 o5
  go_wp2_with fail
  go_ret
  rw [hLe]
  refine ⟨g, rfl, rd_own o6 hLe (Nat.le_refl _) fun k hk => ?_, hb4⟩
  have hp := PC.out k (by rw [hLe]; exact hk)
  rw [hLe] at hp
  exact hp
end
end Go.Proofs.YtkbkalhcdbklkaaGreatDoor
