/-
  Layer 11's law PolyOne. Written by tools/gen_po13.py. By an AI agent.
-/
import Derived.Test.YtfpojgclebaffaaDoorPo12
namespace Go.Proofs.YtfpojgclebaffaaDoor
open Go Go.RowKit
set_option maxRecDepth 20000
/-- s and noughts; the keys. -/
def hiS (ss : List UInt8) : List UInt8 := ss ++ List.replicate 8 0
def key0 (ss : List UInt8) : List UInt8 := List.replicate 16 0 ++ hiS ss
def key1 (ss : List UInt8) : List UInt8 := (1 :: List.replicate 15 0) ++ hiS ss
theorem hiS_len {ss : List UInt8} (h : ss.length = 8) : (hiS ss).length = 16 := by unfold hiS; rw [List.length_append, h]; rfl
theorem key0_len {ss : List UInt8} (h : ss.length = 8) : (key0 ss).length = 32 := by unfold key0; rw [List.length_append, hiS_len h]; rfl
theorem key1_len {ss : List UInt8} (h : ss.length = 8) : (key1 ss).length = 32 := by unfold key1; rw [List.length_append, hiS_len h]; rfl
theorem pa_nought (bs : List UInt8) : ∀ k, pa 0 bs k = 0
  | 0 => rfl
  | k + 1 => by rw [← pa_next, Nat.mul_zero, Nat.zero_mod]
theorem tag0 {bs ss : List UInt8} (h : ss.length = 8) : tagN (key0 ss) bs = hiS ss := by
  unfold tagN key0
  rw [List.take_left' (show (List.replicate 16 (0 : UInt8)).length = 16 by simp), List.drop_left' (show (List.replicate 16 (0 : UInt8)).length = 16 by simp), show vb (cutL (List.replicate 16 0)) = 0 by decide +kernel, pa_nought, Nat.zero_add]
  exact gen_vb (hiS_len h)
theorem tag1 {bs ss : List UInt8} (hb : bs.length = 8) : tagN (key1 ss) bs = gen (bf (vb (bs ++ [1]) + vb (hiS ss))) 16 := by
  have h0 : blkL bs 0 = bs := by unfold blkL; rw [Nat.mul_zero, List.drop_zero, List.take_of_length_le (by omega)]
  have h1 : pa 1 bs 1 = vb (bs ++ [1]) := by
    rw [← pa_next, pa_zero, Nat.zero_add, Nat.mul_one, Nat.mod_eq_of_lt (Nat.lt_trans (pnum_129 bs 0) (by decide +kernel)), ← pnum_eq, h0]
  unfold tagN key1
  rw [List.take_left' (show (1 :: List.replicate 15 (0 : UInt8)).length = 16 by simp), List.drop_left' (show (1 :: List.replicate 15 (0 : UInt8)).length = 16 by simp), show vb (cutL (1 :: List.replicate 15 0)) = 1 by decide +kernel, hb, show nblk16 8 = 1 from rfl, h1]
/-- The bytes of both numbers. -/
theorem one_x {bs : List UInt8} (hb : bs.length = 8) (i : Nat) : by8 (vb (bs ++ [1])) i = if i < 8 then nth bs i else if i = 8 then 1 else 0 := by
  have hl : (bs ++ [(1 : UInt8)]).length = 9 := by rw [List.length_append, hb]; rfl
  by_cases h9 : i < 9
  · have h := vk_dig (bs ++ [1]) i 9 h9
    unfold vb
    rw [hl, h]
    unfold nth
    by_cases h8 : i < 8
    · rw [if_pos h8, List.getElem?_append_left (by omega)]
    · rw [if_neg h8, if_pos (by omega), List.getElem?_append_right (by omega), show i - bs.length = 0 by omega]; rfl
  · have h := vk_lt (bs ++ [1]) 9
    rw [if_neg (by omega), if_neg (by omega)]
    unfold vb
    rw [hl]
    exact by8_top h (by omega)
theorem one_y {ss : List UInt8} (hs : ss.length = 8) {i : Nat} (hi : i < 16) : by8 (vb (hiS ss)) i = if i < 8 then nth ss i else 0 := by
  have h := vk_dig (hiS ss) i 16 hi
  unfold vb
  rw [hiS_len hs, h]
  unfold hiS nth
  by_cases h8 : i < 8
  · rw [if_pos h8, List.getElem?_append_left (by omega)]
  · rw [if_neg h8, List.getElem?_append_right (by omega), List.getElem?_replicate, if_pos (by omega)]; rfl
/-- What is carried into byte i, and with it both bytes. -/
def cr1 (X Y i : Nat) : Nat := cry 256 X Y i
theorem cr1_le (X Y i : Nat) : cr1 X Y i ≤ 1 := cry_le (by decide) _ _ _
theorem cr1_zero (X Y : Nat) : cr1 X Y 0 = 0 := cry_zero _ _ _
theorem cr1_next (X Y i : Nat) : (by8 X i + by8 Y i + cr1 X Y i) / 256 = cr1 X Y (i + 1) := (cry_succ (by decide) _ _ _).symm
theorem cr1_byte (X Y i : Nat) : (by8 X i + by8 Y i + cr1 X Y i) % 256 = by8 (X + Y) i := (dgt_add (b := 256) (by decide) X Y i).symm
theorem k0_cell {ss : List UInt8} (hs : ss.length = 8) {k : Nat} (hk : k < 32) : fput (fun _ => Value.int .u8 0) 16 8 (bvf ss) k = bvf (key0 ss) k := by
  unfold fput bvf
  by_cases h : 16 ≤ k ∧ k < 16 + 8
  · rw [if_pos h]
    have : nth (key0 ss) k = nth ss (k - 16) := by
      unfold nth key0 hiS
      rw [List.getElem?_append_right (by simp; omega), List.length_replicate, List.getElem?_append_left (by omega)]
    rw [this]
  · rw [if_neg h]
    have : nth (key0 ss) k = 0 := by
      unfold nth key0 hiS
      by_cases h2 : k < 16
      · rw [List.getElem?_append_left (by simpa using h2), List.getElem?_replicate, if_pos h2]; rfl
      · rw [List.getElem?_append_right (by simp; omega), List.length_replicate, List.getElem?_append_right (by omega), List.getElem?_replicate, if_pos (by omega)]; rfl
    rw [this]; rfl
theorem key1_drop (ss : List UInt8) : ((key1 ss).drop 16).take 16 = (hiS ss).take 16 := by
  unfold key1
  rw [List.drop_left' (show (1 :: List.replicate 15 (0 : UInt8)).length = 16 by simp)]
theorem own11_rl {bs : List UInt8} {n : Nat} (hn : bs.length = n) (A : Option Addr) (c : Nat) (w : World) (hl : n ≤ 140737488355328) (hr : Rd w w.heap.size A c bs) :
    Calls Tryd.prog 7 #[.slice A n c] w fun e w' => ∃ A' c', e = .returned (.slice A' n c') ∧ Rd w' w'.heap.size A' c' bs ∧ Below w.heap.size w w' :=
  (own11_len hn A c w hl hr).mono fun _ _ ⟨A', c', he, o, hb⟩ => ⟨A', c', he, o.rd, hb⟩
theorem k1_set (ss : List UInt8) : (key0 ss).set 0 1 = key1 ss := rfl
section
attribute [local irreducible] rl setA tagN vb by8 cr1 key0 key1 hiS
set_option maxHeartbeats 6400000 in
theorem one_law {bs ss : List UInt8} (hb : bs.length = 8) (hs : ss.length = 8) {x0 x1 x2 x3 x4 x5 x6 x7 y0 y1 y2 y3 y4 y5 y6 y7 : Nat}
    (hx : (#[.int .u8 (x0 : Int), .int .u8 (x1 : Int), .int .u8 (x2 : Int), .int .u8 (x3 : Int), .int .u8 (x4 : Int), .int .u8 (x5 : Int), .int .u8 (x6 : Int), .int .u8 (x7 : Int)] : Array Value).toList = (List.range 8).map (bvf bs)) (hy : (#[.int .u8 (y0 : Int), .int .u8 (y1 : Int), .int .u8 (y2 : Int), .int .u8 (y3 : Int), .int .u8 (y4 : Int), .int .u8 (y5 : Int), .int .u8 (y6 : Int), .int .u8 (y7 : Int)] : Array Value).toList = (List.range 8).map (bvf ss)) (w : World) (hG : GlbP w) :
    Calls Tryd.prog 6 #[.agg #[.int .u8 (x0 : Int), .int .u8 (x1 : Int), .int .u8 (x2 : Int), .int .u8 (x3 : Int), .int .u8 (x4 : Int), .int .u8 (x5 : Int), .int .u8 (x6 : Int), .int .u8 (x7 : Int)], .agg #[.int .u8 (y0 : Int), .int .u8 (y1 : Int), .int .u8 (y2 : Int), .int .u8 (y3 : Int), .int .u8 (y4 : Int), .int .u8 (y5 : Int), .int .u8 (y6 : Int), .int .u8 (y7 : Int)]] w fun e w' => e = .returned (.bool true) ∧ Below w.heap.size w w' := by
  obtain ⟨i0, hi, hz0, hz1, hz2⟩ := info_parts infoByte
  have hmk := run_mk (P := Tryd.prog) 22 5 i0 Tryd.underlying22 hi hz0 hz1 hz2 (l := 32) (n := 32) rfl (by decide)
  obtain ⟨CB, eCB⟩ : ∃ c : Obj, c = .cells #[.int .u8 (x0 : Int), .int .u8 (x1 : Int), .int .u8 (x2 : Int), .int .u8 (x3 : Int), .int .u8 (x4 : Int), .int .u8 (x5 : Int), .int .u8 (x6 : Int), .int .u8 (x7 : Int)] 31 := ⟨_, rfl⟩
  obtain ⟨CS, eCS⟩ : ∃ c : Obj, c = .cells #[.int .u8 (y0 : Int), .int .u8 (y1 : Int), .int .u8 (y2 : Int), .int .u8 (y3 : Int), .int .u8 (y4 : Int), .int .u8 (y5 : Int), .int .u8 (y6 : Int), .int .u8 (y7 : Int)] 31 := ⟨_, rfl⟩
  have o2 := OwnF.lit (w := w) (B := w.heap.size) 31 (Nat.le_refl _) #[.int .u8 (x0 : Int), .int .u8 (x1 : Int), .int .u8 (x2 : Int), .int .u8 (x3 : Int), .int .u8 (x4 : Int), .int .u8 (x5 : Int), .int .u8 (x6 : Int), .int .u8 (x7 : Int)] 8 (bvf bs) (by decide) hx
  rw [← eCB] at o2
  have s1 : (w.alloc CB).heap.size = w.heap.size + 1 := by simp
  have s2 : ((w.alloc CB).alloc CS).heap.size = w.heap.size + 2 := by simp
  have o3 := OwnF.lit (w := w.alloc CB) (B := w.heap.size) 31 (by omega) #[.int .u8 (y0 : Int), .int .u8 (y1 : Int), .int .u8 (y2 : Int), .int .u8 (y3 : Int), .int .u8 (y4 : Int), .int .u8 (y5 : Int), .int .u8 (y6 : Int), .int .u8 (y7 : Int)] 8 (bvf ss) (by decide) hy
  rw [← eCS, s1] at o3
  have om : OwnF (((w.alloc CB).alloc CS).alloc (.cells (madeCells #[.int .u8 0] 32) 5)) w.heap.size 5 (some ⟨((w.alloc CB).alloc CS).heap.size, 0, none⟩) 32 32 (fun _ => .int .u8 0) := OwnF.made 5 (.int .u8 0) (by omega) (by decide)
  rw [s2] at om
  have hc : Below w.heap.size w (((w.alloc CB).alloc CS).alloc (.cells (madeCells #[.int .u8 0] 32) 5)) := (((Below.refl _ w).alloc (Nat.le_refl _) _).alloc (by omega) _).alloc (by omega) _
  replace o2 := OwnF.keep o2 ((Below.refl (w.alloc CB).heap.size (w.alloc CB)).alloc (Nat.le_refl _) CS)
  replace o2 := OwnF.keep o2 ((Below.refl ((w.alloc CB).alloc CS).heap.size ((w.alloc CB).alloc CS)).alloc (Nat.le_refl _) (.cells (madeCells #[.int .u8 0] 32) 5))
  replace o3 := OwnF.keep o3 ((Below.refl ((w.alloc CB).alloc CS).heap.size ((w.alloc CB).alloc CS)).alloc (Nat.le_refl _) (.cells (madeCells #[.int .u8 0] 32) 5))
  have HE1 := Lib.hid eCB
  have HE2 := Lib.hid eCS
  have HB := Lib.hid hb
  have HS := Lib.hid hs
  clear eCB eCS hx hy s1 s2 hb hs
  go_enter Tryd.func6, Tryd.ntmps6
  go_upto_region 2 with fail
  rw [← HE1.out, ← HE2.out]
  obtain ⟨v1, e1⟩ : ∃ v, v = ((w.alloc CB).alloc CS).alloc (.cells (madeCells #[.int .u8 0] 32) 5) := ⟨_, rfl⟩
  obtain ⟨g2, f2⟩ : ∃ g, g = w.heap.size := ⟨_, rfl⟩
  obtain ⟨g3, f3⟩ : ∃ g, g = w.heap.size + 1 := ⟨_, rfl⟩
  obtain ⟨gk, fk⟩ : ∃ g, g = w.heap.size + 1 + 1 := ⟨_, rfl⟩
  rw [← e1] at o2 o3 om hc ⊢
  replace o2 : OwnF v1 w.heap.size 31 (some ⟨g2, 0, none⟩) 8 8 (bvf bs) := by rw [f2]; exact o2
  replace o3 : OwnF v1 w.heap.size 31 (some ⟨g3, 0, none⟩) 8 8 (bvf ss) := by rw [f3]; exact o3
  replace om : OwnF v1 w.heap.size 5 (some ⟨gk, 0, none⟩) 32 32 (fun _ => .int .u8 0) := by rw [fk]; exact om
  rw [← fk, ← f3, ← f2]
  have n2k := Lib.hid (show gk ≠ g2 by omega)
  have n3k := Lib.hid (show gk ≠ g3 by omega)
  clear e1 f2 f3 fk hmk HE1 HE2
  refine wp_region_inv 3 [13, 14, 15] [.val (.slice (some ⟨gk, 0, none⟩) 32 32), .val (.slice (some ⟨gk, 16, none⟩) 16 16), .val (.slice (some ⟨g3, 0, none⟩) 8 8)] (fun wz => Below v1.heap.size v1 wz) (by kernel_rfl) (by kernel_rfl) (fun wz wz' hz hb => hz.trans (hb.mono hz.size)) ((Below.refl _ _).drew) (fun u => by simp only [puts, List.foldl_cons, List.foldl_nil]; go_simp; exact rfl) ?_ ?_
  · simp only [List.take_succ_cons, List.take_zero]
    refine Obs.cons (fun u w hS hd => ?_) ?_
    · exact Gv.run (.slice (some ⟨gk, 0, none⟩) 32 32) rfl (by go_simp) rfl
    refine Obs.cons (fun u w hS hd => ?_) ?_
    · have d13 : u 13 = .slice (some ⟨gk, 0, none⟩) 32 32 := dep hd 0 rfl
      rw [d13]
      exact Gv.run (.slice (some ⟨gk, 16, none⟩) 16 16) rfl (by go_simp) rfl
    refine Obs.cons (fun u w hS hd => ?_) ?_
    · exact Gv.run (.slice (some ⟨g3, 0, none⟩) 8 8) rfl (by go_simp) rfl
    exact Obs.nil
  · intro u v2 hS hd
    have d14 : u 14 = .slice (some ⟨gk, 16, none⟩) 16 16 := hd 1 (by decide)
    have d15 : u 15 = .slice (some ⟨g3, 0, none⟩) 8 8 := hd 2 (by decide)
    rw [d14, d15]
    replace o2 := OwnF.keep o2 hS
    replace o3 := OwnF.keep o3 hS
    replace om := OwnF.keep om hS
    replace hc := hc.trans (hS.mono hc.size)
    have r3 := (p_ofF o3 HS.out fun _ _ => rfl : Own v2 w.heap.size 31 (some ⟨g3, 0, none⟩) 8 ss).rd
    have hcp := fun (ops : Array Oper) (rest2 : List Oper) (a : Act) (Q : Exit → Act → World → Prop) (d s : Operand) (dst : Option Nat) (tp : TypeId) (ps : String) (af : Array Edge) => copy_to (ops := ops) (rest := rest2) (a := a) (Q := Q) (d := d) (s := s) (dst := dst) (tp := tp) (ps := ps) (af := af) (off := 16) (dl := 16) (dc := 16) (m := 8) om r3 (by rw [HS.out]; rfl) (by decide)
    rw [HS.out] at hcp
    have HCP := Lib.hid hcp
    have oc := av_put om 16 8 (bvf ss)
    have on := av_only v2 gk 16 8 (bvf ss)
    have ok : Own (setA v2 gk 16 8 (bvf ss)) w.heap.size 5 (some ⟨gk, 0, none⟩) 32 (key0 ss) := p_ofF oc (key0_len HS.out) fun k hk => k0_cell HS.out hk
    replace hc := hc.trans (on.below (OwnF.ge om))
    replace o2 := OwnF.only o2 on n2k.out
    replace o3 := OwnF.only o3 on n3k.out
    clear hcp hd d14 d15 oc on om r3 hS
    simp only [List.drop_succ_cons, List.drop_zero]
    have r2 := (p_ofF o2 HB.out fun _ _ => rfl : Own (setA v2 gk 16 8 (bvf ss)) w.heap.size 31 (some ⟨g2, 0, none⟩) 8 bs).rd
    refine HCP.out _ _ _ _ _ _ _ _ _ _ rfl rfl ?_
    clear HCP
    obtain ⟨v3, e3⟩ : ∃ v, v = setA v2 gk 16 8 (bvf ss) := ⟨_, rfl⟩
    rw [← e3] at o2 o3 ok r2 hc ⊢
    clear e3
    obtain ⟨K0, eK⟩ : ∃ K, K = key0 ss := ⟨_, rfl⟩
    obtain ⟨K, eK1⟩ : ∃ K, K = key1 ss := ⟨_, rfl⟩
    obtain ⟨H, eH⟩ : ∃ H, H = hiS ss := ⟨_, rfl⟩
    have hKl := key0_len HS.out
    have hset := k1_set ss
    have hdrop := key1_drop ss
    rw [List.take_of_length_le (l := hiS ss) (by rw [hiS_len HS.out]; decide)] at hdrop
    have t0 := @tag0 bs ss HS.out
    have hHl := hiS_len HS.out
    have hK1l := key1_len HS.out
    have t1 := @tag1 bs ss HB.out
    rw [← eK] at ok hKl hset t0
    rw [← eK1] at hset hK1l hdrop t1
    rw [← eH] at hdrop t0 hHl
    have hQl := tagN_len K bs
    obtain ⟨Q5, eQ⟩ : ∃ Q, Q = tagN K bs := ⟨_, rfl⟩
    have kt := fun (A B : Option Addr) (c d : Nat) (w : World) hG hr hq => ctag_any (A0 := A) (A1 := B) (k0 := c) (c1 := d) (key := K) (bs := bs) hK1l w hG hr hq
    rw [← eQ] at kt hQl t1
    rw [HB.out] at kt
    have KT := Lib.hid kt
    have k0 := fun (A B : Option Addr) (c d : Nat) (w : World) hG hr hq => ctag_any (A0 := A) (A1 := B) (k0 := c) (c1 := d) (key := K0) (bs := bs) hKl w hG hr hq
    rw [t0, HB.out] at k0
    have KT0 := Lib.hid k0
    have HK := Lib.hid hK1l
    have HH := Lib.hid hHl
    have HQ := Lib.hid hQl
    have HT1 := Lib.hid t1
    have HSET := Lib.hid hset
    have HDR := Lib.hid hdrop
    clear eK eK1 eH eQ hset hdrop t0 t1 kt k0 hQl hHl hK1l
    go_wp2_with fail
    go_at_call 7
    refine (own11_rl HB.out _ _ v3 (by decide) r2).mono ?_
    rintro e v4 ⟨A4, c4, rfl, r4, h0⟩
    replace ok := ok.keep h0
    replace o2 := OwnF.keep o2 h0
    replace o3 := OwnF.keep o3 h0
    replace hc := hc.trans (h0.mono hc.size)
    have hlk := OwnF.lt (p_toF ok)
    clear h0 r2
    go_wp2_with fail
    go_at_call 11
    refine (KT0.out _ _ _ _ v4 (hG.next hc) ok.rd r4).mono ?_
    rintro e v5 ⟨A6, c6, rfl, o6, h0⟩
    replace ok := ok.keep h0
    replace o2 := OwnF.keep o2 h0
    replace o3 := OwnF.keep o3 h0
    replace hc := hc.trans (h0.mono hc.size)
    obtain ⟨g6, rfl⟩ := p_at0 (p_toF o6) (by rw [HH.out]; decide)
    have n6k : gk ≠ g6 := by have := OwnF.ge (p_toF o6); omega
    clear h0 r4 KT0 hlk
    have cl := ok.cell (k := 0) (by rw [hKl]; decide)
    have fr := ok.free 0
    have ok1 := ok.set_ 0 1
    rw [HSET.out] at ok1
    have o61 := OwnF.other (p_toF o6) (p := ⟨gk, 0, none⟩) n6k (.int .u8 1)
    have o21 := OwnF.other o2 (p := ⟨gk, 0, none⟩) n2k.out (.int .u8 1)
    have o31 := OwnF.other o3 (p := ⟨gk, 0, none⟩) n3k.out (.int .u8 1)
    have hc1 := hc.setCell (p := ⟨gk, 0, none⟩) (Own.ge ok) (.int .u8 1)
    replace ok1 : Own (v5.setCell ⟨gk, 0, none⟩ (.int .u8 1)) w.heap.size 5 (some ⟨gk, 0, none⟩) 32 K := ok1
    clear ok o6 o2 o3 hc
    go_upto_region 5 with fail
    obtain ⟨v6, e6⟩ : ∃ v, v = v5.setCell ⟨gk, 0, none⟩ (.int .u8 1) := ⟨_, rfl⟩
    rw [← e6] at ok1 o61 o21 o31 hc1 ⊢
    clear e6 cl fr hKl n6k
    have hc := hc1
    clear hc1
    have rk := ok1.rd
    have r2 := (p_ofF o21 HB.out fun _ _ => rfl : Own v6 w.heap.size 31 (some ⟨g2, 0, none⟩) 8 bs).rd
    have r6 := (p_ofF o61 rfl fun _ _ => rfl : Own v6 v4.heap.size 5 (some ⟨g6, 0, none⟩) c6 H).rd
    clear ok1 o61
    have HG := Lib.hid (fun wz (hz : Below v6.heap.size v6 wz) => hG.next (hc.trans (hz.mono hc.size)))
    refine wp_region_inv 9 [27, 28, 29, 30, 31, 26, 32, 33, 8] [.byt K, .byt K, .byt bs, .byt bs, .sat (tupP Q5) tupP_keep, .sat (tupP Q5) tupP_keep, .byt Q5, .val (.int .i64 0), .byt Q5] (fun wz => Below v6.heap.size v6 wz) (by kernel_rfl) (by kernel_rfl) (fun wz wz' hz hb => hz.trans (hb.mono hz.size)) ((Below.refl _ _).drew) (fun u => by simp only [puts, List.foldl_cons, List.foldl_nil]; go_simp; exact rfl) ?_ ?_
    · simp only [List.take_succ_cons, List.take_zero]
      refine Obs.cons (fun u w hS hd => ?_) ?_
      · exact Gv.run (.slice (some ⟨gk, 0, none⟩) 32 32) rfl (by go_simp) ⟨_, _, by rw [HK.out], (rk.keep hS).mono hS.size⟩
      refine Obs.cons (fun u w hS hd => ?_) ?_
      · obtain ⟨A27, c27, d27, g27⟩ : (Know.byt K).ok (u 27) w := dep hd 0 rfl
        rw [HK.out] at d27
        rw [d27]
        refine Gv.call 7 #[.slice A27 32 c27] rfl (by go_simp) ((own11_rl HK.out _ _ w (by decide) g27).mono ?_)
        rintro e w' ⟨A, c, rfl, R, hb⟩
        exact ⟨_, rfl, ⟨A, c, by rw [HK.out], R⟩, hb⟩
      refine Obs.cons (fun u w hS hd => ?_) ?_
      · exact Gv.run (.slice (some ⟨g2, 0, none⟩) 8 8) rfl (by go_simp) ⟨_, _, by rw [HB.out], (r2.keep hS).mono hS.size⟩
      refine Obs.cons (fun u w hS hd => ?_) ?_
      · obtain ⟨A29, c29, d29, g29⟩ : (Know.byt bs).ok (u 29) w := dep hd 2 rfl
        rw [HB.out] at d29
        rw [d29]
        refine Gv.call 7 #[.slice A29 8 c29] rfl (by go_simp) ((own11_rl HB.out _ _ w (by decide) g29).mono ?_)
        rintro e w' ⟨A, c, rfl, R, hb⟩
        exact ⟨_, rfl, ⟨A, c, by rw [HB.out], R⟩, hb⟩
      refine Obs.cons (fun u w hS hd => ?_) ?_
      · obtain ⟨A28, c28, d28, g28⟩ : (Know.byt K).ok (u 28) w := dep hd 1 rfl
        rw [HK.out] at d28
        rw [d28]
        obtain ⟨A30, c30, d30, g30⟩ : (Know.byt bs).ok (u 30) w := dep hd 3 rfl
        rw [HB.out] at d30
        rw [d30]
        refine Gv.call 11 #[.slice A28 32 c28, .slice A30 8 c30] rfl (by go_simp) ((KT.out _ _ _ _ w (HG.out w hS) g28 g30).mono ?_)
        rintro e w' ⟨A, c, rfl, o, hb⟩
        exact ⟨_, rfl, ⟨A, c, rfl, o.rd⟩, hb⟩
      refine Obs.cons (fun u w hS hd => ?_) ?_
      · obtain ⟨A, c, d31, g31⟩ : (Know.sat (tupP Q5) tupP_keep).ok (u 31) w := dep hd 4 rfl
        rw [d31]
        exact Gv.run (.tuple #[.slice A 16 c, .int .i64 0]) rfl (by go_simp) ⟨_, _, rfl, g31⟩
      refine Obs.cons (fun u w hS hd => ?_) ?_
      · obtain ⟨A, c, d26, g26⟩ : (Know.sat (tupP Q5) tupP_keep).ok (u 26) w := dep hd 5 rfl
        rw [d26]
        exact Gv.run (.slice A 16 c) rfl (by go_simp) ⟨_, _, by rw [HQ.out], g26⟩
      refine Obs.cons (fun u w hS hd => ?_) ?_
      · obtain ⟨A, c, d26, g26⟩ : (Know.sat (tupP Q5) tupP_keep).ok (u 26) w := dep hd 5 rfl
        rw [d26]
        exact Gv.run (.int .i64 0) rfl (by go_simp) rfl
      refine Obs.cons (fun u w hS hd => ?_) ?_
      · obtain ⟨A32, c32, d32, g32⟩ : (Know.byt Q5).ok (u 32) w := dep hd 6 rfl
        rw [HQ.out] at d32
        rw [d32]
        exact Gv.run (.slice A32 16 c32) rfl (by go_simp) ⟨_, _, by rw [HQ.out], g32⟩
      exact Obs.nil
    intro u wz hS hd
    obtain ⟨A8, c8, d8, g8⟩ : (Know.byt Q5).ok (u 8) wz := hd 8 (by decide)
    rw [HQ.out] at d8
    rw [d8]
    have d33 : u 33 = .int .i64 0 := hd 7 (by decide)
    rw [d33]
    clear hd d8 d33
    simp only [List.drop_succ_cons, List.drop_zero]
    obtain ⟨v7, ey⟩ : ∃ v, v = wz := ⟨_, rfl⟩
    rw [← ey] at hS g8 ⊢
    clear ey wz HG
    have r8 := g8
    clear g8
    replace rk := (rk.keep hS).mono hS.size
    replace r6 := (r6.keep hS).mono hS.size
    replace o2 := OwnF.keep o21 hS
    replace o3 := OwnF.keep o31 hS
    replace hc := hc.trans (hS.mono hc.size)
    clear hS r2 o21 o31 KT
    have rkh := p_sub rk (l := 16) (n := 16) (by rw [HK.out]; decide) (by decide)
    rw [HDR.out] at rkh
    go_upto_region 6 with fail
    refine wp_region_inv 18 [34, 35, 36, 37, 38, 39, 40, 41, 42, 43, 44, 45, 46, 47, 48, 49, 50, 51] [.val (.int .i64 0), .val (.bool false), .val (.bool false), .val (.int .i64 0), .val (.bool false), .val (.bool false), .val (.bool false), .byt Q5, .val (.int .i64 16), .val (.bool false), .val (.bool false), .val (.bool false), .byt H, .val (.string ⟨H.toArray⟩), .val (.slice (some ⟨gk, 0, none⟩) 32 32), .byt H, .val (.string ⟨H.toArray⟩), .val (.bool false)] (fun wz => Below v7.heap.size v7 wz) (by kernel_rfl) (by kernel_rfl) (fun wz wz' hz hb => hz.trans (hb.mono hz.size)) ((Below.refl _ _).drew) (fun u => by simp only [puts, List.foldl_cons, List.foldl_nil]; go_simp; exact rfl) ?_ ?_
    · simp only [List.take_succ_cons, List.take_zero]
      refine Obs.cons (fun u w hS hd => ?_) ?_
      · exact Gv.run (.int .i64 0) rfl (by go_simp) rfl
      refine Obs.cons (fun u w hS hd => ?_) ?_
      · have d34 : u 34 = .int .i64 0 := dep hd 0 rfl
        rw [d34]
        exact Gv.run (.bool false) rfl (by go_simp) rfl
      refine Obs.cons (fun u w hS hd => ?_) ?_
      · have d35 : u 35 = .bool false := dep hd 1 rfl
        rw [d35]
        exact Gv.run (.bool false) rfl (by go_simp) rfl
      refine Obs.cons (fun u w hS hd => ?_) ?_
      · have d36 : u 36 = .bool false := dep hd 2 rfl
        rw [d36]
        exact Gv.run (.int .i64 0) rfl (by go_simp) rfl
      refine Obs.cons (fun u w hS hd => ?_) ?_
      · have d36 : u 36 = .bool false := dep hd 2 rfl
        rw [d36]
        have d37 : u 37 = .int .i64 0 := dep hd 3 rfl
        rw [d37]
        exact Gv.run (.bool false) rfl (by go_simp) rfl
      refine Obs.cons (fun u w hS hd => ?_) ?_
      · have d36 : u 36 = .bool false := dep hd 2 rfl
        rw [d36]
        have d38 : u 38 = .bool false := dep hd 4 rfl
        rw [d38]
        exact Gv.run (.bool false) rfl (by go_simp) rfl
      refine Obs.cons (fun u w hS hd => ?_) ?_
      · have d39 : u 39 = .bool false := dep hd 5 rfl
        rw [d39]
        exact Gv.run (.bool false) rfl (by go_simp) rfl
      refine Obs.cons (fun u w hS hd => ?_) ?_
      · have d40 : u 40 = .bool false := dep hd 6 rfl
        rw [d40]
        exact Gv.run (.slice A8 16 c8) rfl (by go_simp) (⟨_, _, by rw [HQ.out], (r8.keep hS).mono hS.size⟩)
      refine Obs.cons (fun u w hS hd => ?_) ?_
      · have d40 : u 40 = .bool false := dep hd 6 rfl
        rw [d40]
        obtain ⟨A41, c41, d41, g41⟩ : (Know.byt Q5).ok (u 41) w := dep hd 7 rfl
        rw [HQ.out] at d41
        rw [d41]
        exact Gv.run (.int .i64 16) rfl (by go_simp) rfl
      refine Obs.cons (fun u w hS hd => ?_) ?_
      · have d40 : u 40 = .bool false := dep hd 6 rfl
        rw [d40]
        have d42 : u 42 = .int .i64 16 := dep hd 8 rfl
        rw [d42]
        exact Gv.run (.bool false) rfl (by go_simp) rfl
      refine Obs.cons (fun u w hS hd => ?_) ?_
      · have d40 : u 40 = .bool false := dep hd 6 rfl
        rw [d40]
        have d43 : u 43 = .bool false := dep hd 9 rfl
        rw [d43]
        exact Gv.run (.bool false) rfl (by go_simp) rfl
      refine Obs.cons (fun u w hS hd => ?_) ?_
      · have d44 : u 44 = .bool false := dep hd 10 rfl
        rw [d44]
        exact Gv.run (.bool false) rfl (by go_simp) rfl
      refine Obs.cons (fun u w hS hd => ?_) ?_
      · have d45 : u 45 = .bool false := dep hd 11 rfl
        rw [d45]
        exact Gv.run (.slice (some ⟨g6, 0, none⟩) 16 c6) rfl (by go_simp) (⟨_, _, by rw [HH.out], (r6.keep hS).mono hS.size⟩)
      refine Obs.cons (fun u w hS hd => ?_) ?_
      · have d45 : u 45 = .bool false := dep hd 11 rfl
        rw [d45]
        obtain ⟨A46, c46, d46, g46⟩ : (Know.byt H).ok (u 46) w := dep hd 12 rfl
        rw [HH.out] at d46
        rw [d46]
        exact Gv.run (.string ⟨H.toArray⟩) rfl (run_conv rfl rfl (p_str w HH.out g46)) rfl
      refine Obs.cons (fun u w hS hd => ?_) ?_
      · have d45 : u 45 = .bool false := dep hd 11 rfl
        rw [d45]
        exact Gv.run (.slice (some ⟨gk, 0, none⟩) 32 32) rfl (by go_simp) rfl
      refine Obs.cons (fun u w hS hd => ?_) ?_
      · have d45 : u 45 = .bool false := dep hd 11 rfl
        rw [d45]
        have d48 : u 48 = .slice (some ⟨gk, 0, none⟩) 32 32 := dep hd 14 rfl
        rw [d48]
        exact Gv.run (.slice (some ⟨gk, 16, none⟩) 16 16) rfl (by go_simp) ⟨_, _, by rw [HH.out], (rkh.keep hS).mono hS.size⟩
      refine Obs.cons (fun u w hS hd => ?_) ?_
      · have d45 : u 45 = .bool false := dep hd 11 rfl
        rw [d45]
        obtain ⟨A49, c49, d49, g49⟩ : (Know.byt H).ok (u 49) w := dep hd 15 rfl
        rw [HH.out] at d49
        rw [d49]
        exact Gv.run (.string ⟨H.toArray⟩) rfl (run_conv rfl rfl (p_str w HH.out g49)) rfl
      refine Obs.cons (fun u w hS hd => ?_) ?_
      · have d45 : u 45 = .bool false := dep hd 11 rfl
        rw [d45]
        have d47 : u 47 = .string ⟨H.toArray⟩ := dep hd 13 rfl
        rw [d47]
        have d50 : u 50 = .string ⟨H.toArray⟩ := dep hd 16 rfl
        rw [d50]
        exact Gv.run (.bool false) rfl (by go_simp) rfl
      exact Obs.nil
    intro u wz hS hd
    have d45 : u 45 = .bool false := hd 11 (by decide)
    rw [d45]
    have d51 : u 51 = .bool false := hd 17 (by decide)
    rw [d51]
    clear hd d45 d51
    simp only [List.drop_succ_cons, List.drop_zero]
    obtain ⟨v8, ey⟩ : ∃ v, v = wz := ⟨_, rfl⟩
    rw [← ey] at hS ⊢
    clear ey wz
    replace r8 := (r8.keep hS).mono hS.size
    replace o2 := OwnF.keep o2 hS
    replace o3 := OwnF.keep o3 hS
    replace hc := hc.trans (hS.mono hc.size)
    clear hS rkh rk r6
    have HG := Lib.hid (hG.next hc)
    obtain ⟨b8, o8, rfl, _, _⟩ := r8.at_ (k := 0) (by rw [HQ.out]; decide)
    have HX := Lib.hid (fun i => one_x HB.out i)
    have HY := Lib.hid (fun (i : Nat) (h : i < 16) => one_y HS.out h)
    obtain ⟨X, eX⟩ : ∃ X, X = vb (bs ++ [1]) := ⟨_, rfl⟩
    obtain ⟨Y, eY⟩ : ∃ Y, Y = vb (hiS ss) := ⟨_, rfl⟩
    rw [← eX] at HX HT1
    rw [← eY] at HY HT1
    have HR8 := Lib.hid (fun wz (hz : Below v8.heap.size v8 wz) (k : Nat) (hk : k < 16) => show wz.cell? ⟨b8, o8 + k, none⟩ = some (.int .u8 ((by8 (X + Y) k : Nat) : Int)) by
      obtain ⟨b, o, e, _, hcell⟩ := (r8.keep hz).at_ (k := k) (by rw [HQ.out]; exact hk)
      simp only [Option.some.injEq, Addr.mk.injEq] at e
      rw [e.1, e.2.1, hcell, HT1.out, nth_gen hk, bf_nat])
    have H2 := Lib.hid (fun wz (hz : Below v8.heap.size v8 wz) (k : Nat) (hk : k < 8) => show wz.cell? ⟨g2, k, none⟩ = some (.int .u8 ((nth bs k : Nat) : Int)) from OwnF.cell (OwnF.keep o2 hz) (k := k) hk)
    have H3 := Lib.hid (fun wz (hz : Below v8.heap.size v8 wz) (k : Nat) (hk : k < 8) => show wz.cell? ⟨g3, k, none⟩ = some (.int .u8 ((nth ss k : Nat) : Int)) from OwnF.cell (OwnF.keep o3 hz) (k := k) hk)
    clear r8 o2 o3 eX eY
    go_wp2_with fail
    go_loopw [10, 53] (fun cv iv wr => ∃ j : Nat, j ≤ 16 ∧ iv = .int .i64 (j : Int) ∧ cv = .int .i64 ((cr1 X Y j : Nat) : Int) ∧ Below v8.heap.size v8 wr)
      (fun _ iv _ => 20 - (intOf iv).toNat)
    case atStart => exact ⟨0, by omega, rfl, by rw [cr1_zero]; rfl, Below.refl _ _⟩
    case round =>
      obtain ⟨j, hj, rfl, rfl, hb⟩ := hrel
      by_cases hlt : j < 16
      · have g1 : (j : Int) < 16 := by omega
        have hxj := HX.out j
        have hyj := HY.out j hlt
        have hnx := cr1_next X Y j
        have hby := cr1_byte X Y j
        have hcl := cr1_le X Y j
        have hpl := nth_lt bs j
        have hql := nth_lt ss j
        have HC2 := Lib.hid (fun (h8 : j < 8) wz (hz : Below wr.heap.size wr wz) => H2.out wz (hb.trans (hz.mono hb.size)) j h8)
        have HC3 := Lib.hid (fun (h8 : j < 8) wz (hz : Below wr.heap.size wr wz) => H3.out wz (hb.trans (hz.mono hb.size)) j h8)
        have HC8 := Lib.hid (fun wz (hz : Below wr.heap.size wr wz) => HR8.out wz (hb.trans (hz.mono hb.size)) j hlt)
        generalize cr1 X Y j = c at *
        obtain ⟨c2, ec2⟩ : ∃ c2, c2 = cr1 X Y (j + 1) := ⟨_, rfl⟩
        rw [← ec2] at hnx
        generalize by8 (X + Y) j = t at *
        generalize by8 X j = bx at *
        generalize by8 Y j = yv at *
        generalize nth bs j = p at *
        generalize nth ss j = q at *
        have HEC := Lib.hid ec2
        clear ec2
        obtain ⟨s, es⟩ : ∃ s, s = bx + yv + c := ⟨_, rfl⟩
        rw [← es] at hnx hby
        have hsl : s ≤ 511 := by
          rw [es, hxj, hyj]
          by_cases h8 : j < 8
          · rw [if_pos h8, if_pos h8]; omega
          · rw [if_neg h8, if_neg h8]; split <;> omega
        have w1 : IntKind.u8.wrap (s : Int) = (t : Int) := by rw [IntKind.wrap_u8]; omega
        have w2 : (s : Int) / 256 = (c2 : Int) := by omega
        have w3 : IntKind.i64.wrap ((j : Int) + 1) = (j : Int) + 1 := by rw [IntKind.wrap_i64]; omega
        by_cases h8 : j < 8
        · have g2' : (j : Int) < 8 := by omega
          have g3' : ((j : Int) == 8) = false := by simp; omega
          rw [if_pos h8] at hxj hyj
          obtain ⟨pq, epq⟩ : ∃ pq, pq = p + q := ⟨_, rfl⟩
          have a1 : IntKind.i64.wrap ((p : Int) + (q : Int)) = (pq : Int) := by rw [IntKind.wrap_i64]; omega
          have a2 : IntKind.i64.wrap ((c : Int) + (pq : Int)) = (s : Int) := by rw [IntKind.wrap_i64]; omega
          have a3 : IntKind.i64.wrap (p : Int) = (p : Int) := by rw [IntKind.wrap_i64]; omega
          have a4 : IntKind.i64.wrap (q : Int) = (q : Int) := by rw [IntKind.wrap_i64]; omega
          replace HC2 := Lib.hid (HC2.out h8)
          replace HC3 := Lib.hid (HC3.out h8)
          clear hxj hyj hnx hby es epq
          go_upto_region 13 with fail
          refine wp_region_inv 11 [58, 59, 60, 61, 62, 63, 64, 65, 66, 67, 68] [.val (.int .i64 (c : Int)), .val (.int .i64 (j : Int)), .val (.pointer (some ⟨g2, j, none⟩)), .val (.int .u8 (p : Int)), .val (.int .i64 (p : Int)), .val (.int .i64 (j : Int)), .val (.pointer (some ⟨g3, j, none⟩)), .val (.int .u8 (q : Int)), .val (.int .i64 (q : Int)), .val (.int .i64 (pq : Int)), .val (.int .i64 (s : Int))] (fun wz => Below wr.heap.size wr wz) (by kernel_rfl) (by kernel_rfl) (fun wz wz' hz hb => hz.trans (hb.mono hz.size)) ((Below.refl _ _).drew) (fun u => by simp only [puts, List.foldl_cons, List.foldl_nil]; go_simp; exact rfl) ?_ ?_
          · simp only [List.take_succ_cons, List.take_zero]
            refine Obs.cons (fun u w hS hd => ?_) ?_
            · exact Gv.run (.int .i64 (c : Int)) rfl (by go_simp) rfl
            refine Obs.cons (fun u w hS hd => ?_) ?_
            · exact Gv.run (.int .i64 (j : Int)) rfl (by go_simp) rfl
            refine Obs.cons (fun u w hS hd => ?_) ?_
            · have d59 : u 59 = .int .i64 (j : Int) := dep hd 1 rfl
              rw [d59]
              exact Gv.run (.pointer (some ⟨g2, j, none⟩)) rfl (by go_simp) rfl
            refine Obs.cons (fun u w hS hd => ?_) ?_
            · have d60 : u 60 = .pointer (some ⟨g2, j, none⟩) := dep hd 2 rfl
              rw [d60]
              exact Gv.run (.int .u8 (p : Int)) rfl (by have hcl := HC2.out w hS; go_simp) rfl
            refine Obs.cons (fun u w hS hd => ?_) ?_
            · have d61 : u 61 = .int .u8 (p : Int) := dep hd 3 rfl
              rw [d61]
              exact Gv.run (.int .i64 (p : Int)) rfl (by go_simp) rfl
            refine Obs.cons (fun u w hS hd => ?_) ?_
            · exact Gv.run (.int .i64 (j : Int)) rfl (by go_simp) rfl
            refine Obs.cons (fun u w hS hd => ?_) ?_
            · have d63 : u 63 = .int .i64 (j : Int) := dep hd 5 rfl
              rw [d63]
              exact Gv.run (.pointer (some ⟨g3, j, none⟩)) rfl (by go_simp) rfl
            refine Obs.cons (fun u w hS hd => ?_) ?_
            · have d64 : u 64 = .pointer (some ⟨g3, j, none⟩) := dep hd 6 rfl
              rw [d64]
              exact Gv.run (.int .u8 (q : Int)) rfl (by have hcl := HC3.out w hS; go_simp) rfl
            refine Obs.cons (fun u w hS hd => ?_) ?_
            · have d65 : u 65 = .int .u8 (q : Int) := dep hd 7 rfl
              rw [d65]
              exact Gv.run (.int .i64 (q : Int)) rfl (by go_simp) rfl
            refine Obs.cons (fun u w hS hd => ?_) ?_
            · have d62 : u 62 = .int .i64 (p : Int) := dep hd 4 rfl
              have d66 : u 66 = .int .i64 (q : Int) := dep hd 8 rfl
              rw [d62, d66]
              exact Gv.run (.int .i64 (pq : Int)) rfl (by go_simp) rfl
            refine Obs.cons (fun u w hS hd => ?_) ?_
            · have d58 : u 58 = .int .i64 (c : Int) := dep hd 0 rfl
              have d67 : u 67 = .int .i64 (pq : Int) := dep hd 9 rfl
              rw [d58, d67]
              exact Gv.run (.int .i64 (s : Int)) rfl (by go_simp) rfl
            exact Obs.nil
          · intro u v9 hS hd
            have d68 : u 68 = .int .i64 (s : Int) := hd 10 (by decide)
            rw [d68]
            have hc8 := HC8.out v9 hS
            have hb9 := Lib.hid (hb.trans (hS.mono hb.size))
            clear hd d68 a1 a2 a3 a4 hS
            simp only [List.drop_succ_cons, List.drop_zero]
            go_wp2_with fail
            exact ⟨⟨j + 1, by omega, by go_num, by rw [HEC.out], hb9.out⟩, by simp [intOf]; omega⟩
        · have g2' : ¬ (j : Int) < 8 := by omega
          rw [if_neg h8] at hxj hyj
          have hc8 := HC8.out wr (Below.refl _ _)
          have hb9 := Lib.hid hb
          by_cases h9 : j = 8
          · have g3' : ((j : Int) == 8) = true := by simp; omega
            rw [if_pos h9] at hxj
            have a2 : IntKind.i64.wrap ((c : Int) + 1) = (s : Int) := by rw [IntKind.wrap_i64]; omega
            clear hxj hyj hnx hby es h9 hb
            go_wp2_with fail
            exact ⟨⟨j + 1, by omega, by go_num, by rw [HEC.out], hb9.out⟩, by simp [intOf]; omega⟩
          · have g3' : ((j : Int) == 8) = false := by simp; omega
            rw [if_neg h9] at hxj
            obtain rfl : s = c := by omega
            clear hxj hyj hnx hby es h9 hb
            go_wp2_with fail
            exact ⟨⟨j + 1, by omega, by go_num, by rw [HEC.out], hb9.out⟩, by simp [intOf]; omega⟩
      · have g1 : ¬ (j : Int) < 16 := by omega
        have hG8 := HG.out.next hb
        have hc8 := hc.trans (hb.mono hc.size)
        clear HG hb hc
        go_wp2_with fail
        go_at_call 10
        refine (awake11 wr hG8).mono ?_
        rintro e v9 ⟨rfl, h0⟩
        have hfin := hc8.trans (h0.mono hc8.size)
        go_wp2_with fail
        go_ret
        exact ⟨rfl, hfin⟩
end
theorem list8b {α : Type} (l : List α) (h : l.length = 8) : ∃ c0 c1 c2 c3 c4 c5 c6 c7, l = [c0, c1, c2, c3, c4, c5, c6, c7] := by
  match l, h with
  | [c0, c1, c2, c3, c4, c5, c6, c7], _ => exact ⟨c0, c1, c2, c3, c4, c5, c6, c7, rfl⟩
theorem one_w (w : World) (hG : GlbP w) {bs ss : List UInt8} (hb : bs.length = 8) (hs : ss.length = 8) :
    Calls Tryd.prog 6 #[.agg (bs.map bv).toArray, .agg (ss.map bv).toArray] w fun e w' => e = .returned (.bool true) ∧ Below w.heap.size w w' := by
  obtain ⟨b0, b1, b2, b3, b4, b5, b6, b7, rfl⟩ := list8b bs hb
  obtain ⟨s0, s1, s2, s3, s4, s5, s6, s7, rfl⟩ := list8b ss hs
  exact one_law (x0 := b0.toNat) (x1 := b1.toNat) (x2 := b2.toNat) (x3 := b3.toNat) (x4 := b4.toNat) (x5 := b5.toNat) (x6 := b6.toNat) (x7 := b7.toNat) (y0 := s0.toNat) (y1 := s1.toNat) (y2 := s2.toNat) (y3 := s3.toNat) (y4 := s4.toNat) (y5 := s5.toNat) (y6 := s6.toNat) (y7 := s7.toNat) hb hs rfl rfl w hG
end Go.Proofs.YtfpojgclebaffaaDoor
