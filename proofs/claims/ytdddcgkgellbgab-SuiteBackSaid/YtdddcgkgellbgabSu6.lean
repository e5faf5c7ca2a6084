/-
  Layer 19, the landed code: a term's name. By an AI agent.
-/
import Derived.Test.YtdddcgkgellbgabSu5
import Derived.Test.YtdddcgkgellbgabSu3
import Derived.Test.YtdddcgkgellbgabCp
namespace Go.Proofs.Ytdddcgkgellbgab
open Go Go.RowKit
set_option maxRecDepth 20000
attribute [local irreducible] e8 calledT
theorem own_f {w : World} {B c n : Nat} {e : TypeId} {A : Option Addr} {bs : List UInt8} (h : Own w B e A c bs) (hn : bs.length = n) : OwnF w B e A c n (bvf bs) := by
  subst hn
  unfold OwnF
  rw [show (List.range bs.length).map (bvf bs) = bs.map bv from ?_]
  · exact h
  · refine List.ext_getElem? fun i => ?_
    by_cases hi : i < bs.length
    · simp [hi, bvf, nth]
    · simp [hi]
theorem f_own {w : World} {B c n : Nat} {e : TypeId} {A : Option Addr} {bs : List UInt8} (h : OwnF w B e A c n (bvf bs)) (hn : bs.length = n) : Own w B e A c bs := by
  subst hn
  unfold OwnF at h
  rw [show (List.range bs.length).map (bvf bs) = bs.map bv from ?_] at h
  · exact h
  · refine List.ext_getElem? fun i => ?_
    by_cases hi : i < bs.length
    · simp [hi, bvf, nth]
    · simp [hi]
theorem called_at (t : Trm) (n k : Nat) (hk : k < sizeT t) : nth (calledT t n) k = if k = 0 then t.kind.toNat else if k < 9 then nth (e8 n) (k - 1) else 0 := by
  have h16 := sizeT_ge t
  unfold calledT nth
  cases k with
  | zero => simp
  | succ k =>
    rw [if_neg (by omega), List.getElem?_cons_succ, Nat.add_sub_cancel]
    by_cases h9 : k < 8
    · rw [if_pos (by omega), List.getElem?_append_left (by rw [e8_len]; exact h9)]
    · rw [if_neg (by omega), List.getElem?_append_right (by rw [e8_len]; omega), e8_len, List.getElem?_replicate, if_pos (by omega)]
      rfl
set_option maxHeartbeats 1600000 in
theorem termname_any {t : Trm} {b n : Nat} (hk : okT t) (hn : n < 9223372036854775808) (w : World) (hb : w.heap[b]? = some (prtC t.parts)) :
    Calls Try.prog 53 #[.agg #[.int .u8 (t.kind.toNat : Int), sliV b t.parts.length], .int .i64 (n : Int)] w fun e w' => ∃ A c, e = .returned (.slice A (sizeT t) c) ∧ Own w' w.heap.size 5 A c (calledT t n) ∧ Below w.heap.size w w' := by
  obtain ⟨i0, hi, hz0, hz1, hz2⟩ := info_parts infoByte
  have hbl := w_lt hb
  have HC := Lib.hid (called_at t n)
  have HL := Lib.hid (calledT_len t n)
  have h16 := Lib.hid (sizeT_ge t)
  have HE := Lib.hid (fun v => eight_any (n := n) hn v)
  obtain ⟨κ, eκ⟩ : ∃ κ : Int, κ = (t.kind.toNat : Int) := ⟨_, rfl⟩
  obtain ⟨pl, epl⟩ : ∃ m, m = t.parts.length := ⟨_, rfl⟩
  have HK := Lib.hid (And.intro eκ epl)
  rw [← eκ, ← epl]
  clear eκ epl
  go_enter Try.func53, Try.ntmps53
  by_cases h1 : t.kind = 103
  · have hs : sizeT t = 64 := if_pos h1
    have g1 : κ = 103 := by rw [HK.out.1, h1]; rfl
    have HS := Lib.hid hs
    clear h1 hs
    subst g1
    have hmk := run_mk (P := Try.prog) 31 5 i0 Try.underlying31 hi hz0 hz1 hz2 (l := (64 : Int)) (n := 64) rfl (by omega)
    have hm : Own ((w.alloc (.cells #[.int .u8 103, .slice (some ⟨b, 0, none⟩) pl pl] 75)).alloc (.cells (madeCells #[.int .u8 0] 64) 5)) (w.heap.size + 1) 5 (some ⟨w.heap.size + 1, 0, none⟩) 64 (List.replicate 64 0) := by
      have h := Own.made (w := w.alloc (.cells #[.int .u8 103, .slice (some ⟨b, 0, none⟩) pl pl] 75)) (B := w.heap.size + 1) (n := 64) 5 (by simp) (by unfold maxLen; omega)
      simpa using h
    have e1 := hm.cell (k := 0) (by rw [List.length_replicate]; omega)
    rw [show nth (List.replicate (64) (0 : UInt8)) 0 = 0 from by unfold nth; rw [List.getElem?_replicate]; split <;> rfl] at e1
    have e2 := hm.free 0
    have HM := Lib.hid hm
    clear hm
    go_wp2_with fail
    clear hmk e1 e2
    obtain ⟨v0, ev0⟩ : ∃ v, v = w.alloc (.cells #[.int .u8 103, .slice (some ⟨b, 0, none⟩) pl pl] 75) := ⟨_, rfl⟩
    have es0 : w.heap.size + 1 = v0.heap.size := by rw [ev0]; simp
    have HB0 := Lib.hid (show Below w.heap.size w v0 by rw [ev0]; exact (Below.refl _ _).alloc (Nat.le_refl _) _)
    rw [← ev0] at HM
    simp only [← ev0]
    rw [es0] at HM ⊢
    obtain ⟨g, eg⟩ : ∃ g, g = v0.heap.size := ⟨_, rfl⟩
    obtain ⟨v2, ev2⟩ : ∃ v, v = v0.alloc (.cells ((madeCells #[.int .u8 0] 64).setIfInBounds 0 (.int .u8 103)) 5) := ⟨_, rfl⟩
    have ho2 : Own v2 g 5 (some ⟨g, 0, none⟩) 64 ((List.replicate 64 0).set 0 t.kind) := by
      have h := HM.out.set_ 0 t.kind
      rw [World.setCell_alloc_at _ _ _ _ _ rfl, ← HK.out.1] at h
      rw [ev2, eg]
      exact h
    have HB2 := Lib.hid (show Below w.heap.size w v2 by rw [ev2]; exact HB0.out.trans (((Below.refl _ v0).alloc (Nat.le_refl _) _).mono HB0.out.size))
    have hg2 : g < v2.heap.size := by rw [ev2, eg]; simp
    have HG := Lib.hid (show w.heap.size ≤ g by rw [eg]; exact HB0.out.size)
    rw [← ev2, ← eg]
    clear ev2 ev0 es0 eg HM HB0
    have HO := Lib.hid (And.intro ho2 hg2)
    clear ho2 hg2
    refine wp_region_inv 4 [29, 30, 31, 32] [.val (.slice (some ⟨g, 0, none⟩) 64 64), .val (.slice (some ⟨g, 1, none⟩) (64 - 1) (64 - 1)), .val (.int .i64 (n : Int)), .byt (e8 n)] (fun wz => Below v2.heap.size v2 wz) (by kernel_rfl) (by kernel_rfl) (fun wz wz' hz hb => hz.trans (hb.mono hz.size)) ((Below.refl _ _).drew) (fun u => by simp only [puts, List.foldl_cons, List.foldl_nil]; go_simp; exact rfl) ?_ ?_
    · simp only [List.take_succ_cons, List.take_zero]
      refine Obs.cons (fun u w hS hd => ?_) ?_
      · exact Gv.run (.slice (some ⟨g, 0, none⟩) 64 64) rfl (by go_simp) rfl
      refine Obs.cons (fun u w hS hd => ?_) ?_
      · have d29 : u 29 = .slice (some ⟨g, 0, none⟩) 64 64 := dep hd 0 rfl
        rw [d29]
        exact Gv.run (.slice (some ⟨g, 1, none⟩) (64 - 1) (64 - 1)) rfl (by go_simp) rfl
      refine Obs.cons (fun u w hS hd => ?_) ?_
      · exact Gv.run (.int .i64 (n : Int)) rfl (by go_simp) rfl
      refine Obs.cons (fun u w hS hd => ?_) ?_
      · have d31 : u 31 = .int .i64 (n : Int) := dep hd 2 rfl
        rw [d31]
        refine Gv.call 42 #[.int .i64 (n : Int)] rfl (by go_simp) ((HE.out w).mono ?_)
        rintro e w' ⟨A, c, rfl, ho, hb⟩
        exact ⟨_, rfl, ⟨A, c, by rw [e8_len], ho.rd⟩, hb⟩
      exact Obs.nil
    · intro u wz hS hd
      have d30 : u 30 = .slice (some ⟨g, 1, none⟩) (64 - 1) (64 - 1) := hd 1 (by decide)
      obtain ⟨A, c, d32, hr⟩ := hd 3 (by decide)
      have hoz := own_f (HO.out.1.keep hS) (n := 64) (by simp)
      refine copy_to hoz hr (m := 8) (off := 1) (dl := 64 - 1) (dc := 64 - 1) (by rw [e8_len]; exact (Nat.min_eq_left (by omega)).symm) (by omega) (by go_simp) (by go_simp; exact d32) ?_
      have hz3 := av_put hoz 1 8 (bvf (e8 n))
      obtain ⟨w3, ew3⟩ : ∃ v, v = setA wz g 1 8 (bvf (e8 n)) := ⟨_, rfl⟩
      have HBz := Lib.hid (HB2.out.trans ((hS.mono HB2.out.size).trans ((av_only wz g 1 8 (bvf (e8 n))).below HG.out)))
      rw [← ew3] at hz3 HBz ⊢
      clear ew3 hoz hr hS hd
      have HZ := Lib.hid hz3
      clear hz3
      go_wp2_with fail
      go_ret
      refine ⟨some ⟨g, 0, none⟩, 64, by rw [HS.out]; rfl, f_own (HZ.out.mono HG.out |>.congr fun k hk => ?_) (by rw [HL.out, HS.out]), HBz.out⟩
      have hc := HC.out k (by rw [HS.out]; exact hk)
      unfold fput bvf
      rw [hc]
      cases k with
      | zero => rw [if_neg (by omega), if_pos rfl]; unfold nth; rw [List.getElem?_set_self (by rw [List.length_replicate]; omega)]; rfl
      | succ k =>
        rw [if_neg (Nat.succ_ne_zero k)]
        by_cases h9 : k + 1 < 9
        · rw [if_pos (by omega), if_pos h9]
        · rw [if_neg (by omega), if_neg h9]
          unfold nth
          rw [List.getElem?_set_ne (by omega), List.getElem?_replicate, if_pos (by omega)]
          rfl
  by_cases h2 : t.kind = 98
  · have hs : sizeT t = (row t.parts 3).length + 16 := by unfold sizeT; rw [if_neg h1, if_pos h2]
    have hpl : pl = 4 := by rw [HK.out.2, hk.ar, h2]; rfl
    have g1 : κ = 98 := by rw [HK.out.1, h2]; rfl
    obtain ⟨S, eS⟩ : ∃ m, m = (row t.parts 3).length + 16 := ⟨_, rfl⟩
    obtain ⟨q, hq, hq2⟩ : ∃ q, q = row t.parts 3 ∧ q.length ≤ 1099511627776 := ⟨_, rfl, by
      have h4 : 3 < t.parts.length := by rw [← HK.out.2, hpl]; decide
      rw [row_get h4]; exact hk.fit _ (List.getElem_mem h4)⟩
    have hc3 : (w.alloc (.cells #[.int .u8 98, .slice (some ⟨b, 0, none⟩) 4 4] 75)).cell? ⟨b, 3, none⟩ = some (bStr q) := by
      have h4 : 3 < t.parts.length := by rw [← HK.out.2, hpl]; decide
      have h := ((Below.refl _ w).alloc (Nat.le_refl _) (.cells #[.int .u8 98, .slice (some ⟨b, 0, none⟩) 4 4] 75)).block b hbl
      unfold World.cell?
      rw [h, hb, hq, row_get h4]
      simp [h4]
    rw [← hq] at eS
    have hsz : (ByteArray.mk q.toArray).size = q.length := List.size_toArray
    obtain ⟨ql, eql⟩ : ∃ m, m = q.length := ⟨_, rfl⟩
    rw [← eql] at eS hsz hq2
    have HS := Lib.hid (show sizeT t = S by rw [hs, eS, eql, hq])
    have HES := Lib.hid eS
    have HE2 := Lib.hid (show (ql : Int) + 16 = (S : Int) by omega)
    have hS9 : S ≤ 1099511627800 := by omega
    have hS8 : 16 ≤ S := by omega
    clear h1 h2 hs hq eS eql
    subst g1
    subst hpl
    have hmk := run_mk (P := Try.prog) 31 5 i0 Try.underlying31 hi hz0 hz1 hz2 (l := ((ql : Int) + 16)) (n := S) HE2.out (by omega)
    have hm : Own ((w.alloc (.cells #[.int .u8 98, .slice (some ⟨b, 0, none⟩) 4 4] 75)).alloc (.cells (madeCells #[.int .u8 0] S) 5)) (w.heap.size + 1) 5 (some ⟨w.heap.size + 1, 0, none⟩) S (List.replicate S 0) := by
      have h := Own.made (w := w.alloc (.cells #[.int .u8 98, .slice (some ⟨b, 0, none⟩) 4 4] 75)) (B := w.heap.size + 1) (n := S) 5 (by simp) (by unfold maxLen; omega)
      simpa using h
    have e1 := hm.cell (k := 0) (by rw [List.length_replicate]; omega)
    rw [show nth (List.replicate (S) (0 : UInt8)) 0 = 0 from by unfold nth; rw [List.getElem?_replicate]; split <;> rfl] at e1
    have e2 := hm.free 0
    have HM := Lib.hid hm
    clear hm
    go_wp2_with fail
    clear hmk e1 e2
    obtain ⟨v0, ev0⟩ : ∃ v, v = w.alloc (.cells #[.int .u8 98, .slice (some ⟨b, 0, none⟩) 4 4] 75) := ⟨_, rfl⟩
    have es0 : w.heap.size + 1 = v0.heap.size := by rw [ev0]; simp
    have HB0 := Lib.hid (show Below w.heap.size w v0 by rw [ev0]; exact (Below.refl _ _).alloc (Nat.le_refl _) _)
    rw [← ev0] at HM
    simp only [← ev0]
    rw [es0] at HM ⊢
    obtain ⟨g, eg⟩ : ∃ g, g = v0.heap.size := ⟨_, rfl⟩
    obtain ⟨v2, ev2⟩ : ∃ v, v = v0.alloc (.cells ((madeCells #[.int .u8 0] S).setIfInBounds 0 (.int .u8 98)) 5) := ⟨_, rfl⟩
    have ho2 : Own v2 g 5 (some ⟨g, 0, none⟩) S ((List.replicate S 0).set 0 t.kind) := by
      have h := HM.out.set_ 0 t.kind
      rw [World.setCell_alloc_at _ _ _ _ _ rfl, ← HK.out.1] at h
      rw [ev2, eg]
      exact h
    have HB2 := Lib.hid (show Below w.heap.size w v2 by rw [ev2]; exact HB0.out.trans (((Below.refl _ v0).alloc (Nat.le_refl _) _).mono HB0.out.size))
    have hg2 : g < v2.heap.size := by rw [ev2, eg]; simp
    have HG := Lib.hid (show w.heap.size ≤ g by rw [eg]; exact HB0.out.size)
    rw [← ev2, ← eg]
    clear ev2 ev0 es0 eg HM HB0
    have HO := Lib.hid (And.intro ho2 hg2)
    clear ho2 hg2
    refine wp_region_inv 4 [29, 30, 31, 32] [.val (.slice (some ⟨g, 0, none⟩) S S), .val (.slice (some ⟨g, 1, none⟩) (S - 1) (S - 1)), .val (.int .i64 (n : Int)), .byt (e8 n)] (fun wz => Below v2.heap.size v2 wz) (by kernel_rfl) (by kernel_rfl) (fun wz wz' hz hb => hz.trans (hb.mono hz.size)) ((Below.refl _ _).drew) (fun u => by simp only [puts, List.foldl_cons, List.foldl_nil]; go_simp; exact rfl) ?_ ?_
    · simp only [List.take_succ_cons, List.take_zero]
      refine Obs.cons (fun u w hS hd => ?_) ?_
      · exact Gv.run (.slice (some ⟨g, 0, none⟩) S S) rfl (by go_simp) rfl
      refine Obs.cons (fun u w hS hd => ?_) ?_
      · have d29 : u 29 = .slice (some ⟨g, 0, none⟩) S S := dep hd 0 rfl
        rw [d29]
        have s1 : (1 : Int) ≤ (S : Int) := by omega
        have s2 : ¬ S = 1 := by omega
        exact Gv.run (.slice (some ⟨g, 1, none⟩) (S - 1) (S - 1)) rfl (by go_simp) rfl
      refine Obs.cons (fun u w hS hd => ?_) ?_
      · exact Gv.run (.int .i64 (n : Int)) rfl (by go_simp) rfl
      refine Obs.cons (fun u w hS hd => ?_) ?_
      · have d31 : u 31 = .int .i64 (n : Int) := dep hd 2 rfl
        rw [d31]
        refine Gv.call 42 #[.int .i64 (n : Int)] rfl (by go_simp) ((HE.out w).mono ?_)
        rintro e w' ⟨A, c, rfl, ho, hb⟩
        exact ⟨_, rfl, ⟨A, c, by rw [e8_len], ho.rd⟩, hb⟩
      exact Obs.nil
    · intro u wz hS hd
      have d30 : u 30 = .slice (some ⟨g, 1, none⟩) (S - 1) (S - 1) := hd 1 (by decide)
      obtain ⟨A, c, d32, hr⟩ := hd 3 (by decide)
      have hoz := own_f (HO.out.1.keep hS) (n := S) (by simp)
      refine copy_to hoz hr (m := 8) (off := 1) (dl := S - 1) (dc := S - 1) (by rw [e8_len]; exact (Nat.min_eq_left (by omega)).symm) (by omega) (by go_simp) (by go_simp; exact d32) ?_
      have hz3 := av_put hoz 1 8 (bvf (e8 n))
      obtain ⟨w3, ew3⟩ : ∃ v, v = setA wz g 1 8 (bvf (e8 n)) := ⟨_, rfl⟩
      have HBz := Lib.hid (HB2.out.trans ((hS.mono HB2.out.size).trans ((av_only wz g 1 8 (bvf (e8 n))).below HG.out)))
      rw [← ew3] at hz3 HBz ⊢
      clear ew3 hoz hr hS hd
      have HZ := Lib.hid hz3
      clear hz3
      go_wp2_with fail
      go_ret
      refine ⟨some ⟨g, 0, none⟩, S, by rw [HS.out]; rfl, f_own (HZ.out.mono HG.out |>.congr fun k hk => ?_) (by rw [HL.out, HS.out]), HBz.out⟩
      have hc := HC.out k (by rw [HS.out]; exact hk)
      unfold fput bvf
      rw [hc]
      cases k with
      | zero => rw [if_neg (by omega), if_pos rfl]; unfold nth; rw [List.getElem?_set_self (by rw [List.length_replicate]; omega)]; rfl
      | succ k =>
        rw [if_neg (Nat.succ_ne_zero k)]
        by_cases h9 : k + 1 < 9
        · rw [if_pos (by omega), if_pos h9]
        · rw [if_neg (by omega), if_neg h9]
          unfold nth
          rw [List.getElem?_set_ne (by omega), List.getElem?_replicate, if_pos (by omega)]
          rfl
  · have hs : sizeT t = 32 := by unfold sizeT; rw [if_neg h1, if_neg h2]
    have g1 : (κ == 103) = false := by
      rw [beq_eq_false_iff_ne, HK.out.1]; intro h; exact h1 (UInt8.toNat_inj.1 (by show t.kind.toNat = 103; omega))
    have g2 : (κ == 98) = false := by
      rw [beq_eq_false_iff_ne, HK.out.1]; intro h; exact h2 (UInt8.toNat_inj.1 (by show t.kind.toNat = 98; omega))
    have HS := Lib.hid hs
    clear h1 h2 hs
    have hmk := run_mk (P := Try.prog) 31 5 i0 Try.underlying31 hi hz0 hz1 hz2 (l := (32 : Int)) (n := 32) rfl (by omega)
    have hm : Own ((w.alloc (.cells #[.int .u8 κ, .slice (some ⟨b, 0, none⟩) pl pl] 75)).alloc (.cells (madeCells #[.int .u8 0] 32) 5)) (w.heap.size + 1) 5 (some ⟨w.heap.size + 1, 0, none⟩) 32 (List.replicate 32 0) := by
      have h := Own.made (w := w.alloc (.cells #[.int .u8 κ, .slice (some ⟨b, 0, none⟩) pl pl] 75)) (B := w.heap.size + 1) (n := 32) 5 (by simp) (by unfold maxLen; omega)
      simpa using h
    have e1 := hm.cell (k := 0) (by rw [List.length_replicate]; omega)
    rw [show nth (List.replicate (32) (0 : UInt8)) 0 = 0 from by unfold nth; rw [List.getElem?_replicate]; split <;> rfl] at e1
    have e2 := hm.free 0
    have HM := Lib.hid hm
    clear hm
    go_wp2_with fail
    clear hmk e1 e2
    obtain ⟨v0, ev0⟩ : ∃ v, v = w.alloc (.cells #[.int .u8 κ, .slice (some ⟨b, 0, none⟩) pl pl] 75) := ⟨_, rfl⟩
    have es0 : w.heap.size + 1 = v0.heap.size := by rw [ev0]; simp
    have HB0 := Lib.hid (show Below w.heap.size w v0 by rw [ev0]; exact (Below.refl _ _).alloc (Nat.le_refl _) _)
    rw [← ev0] at HM
    simp only [← ev0]
    rw [es0] at HM ⊢
    obtain ⟨g, eg⟩ : ∃ g, g = v0.heap.size := ⟨_, rfl⟩
    obtain ⟨v2, ev2⟩ : ∃ v, v = v0.alloc (.cells ((madeCells #[.int .u8 0] 32).setIfInBounds 0 (.int .u8 κ)) 5) := ⟨_, rfl⟩
    have ho2 : Own v2 g 5 (some ⟨g, 0, none⟩) 32 ((List.replicate 32 0).set 0 t.kind) := by
      have h := HM.out.set_ 0 t.kind
      rw [World.setCell_alloc_at _ _ _ _ _ rfl, ← HK.out.1] at h
      rw [ev2, eg]
      exact h
    have HB2 := Lib.hid (show Below w.heap.size w v2 by rw [ev2]; exact HB0.out.trans (((Below.refl _ v0).alloc (Nat.le_refl _) _).mono HB0.out.size))
    have hg2 : g < v2.heap.size := by rw [ev2, eg]; simp
    have HG := Lib.hid (show w.heap.size ≤ g by rw [eg]; exact HB0.out.size)
    rw [← ev2, ← eg]
    clear ev2 ev0 es0 eg HM HB0
    have HO := Lib.hid (And.intro ho2 hg2)
    clear ho2 hg2
    refine wp_region_inv 4 [29, 30, 31, 32] [.val (.slice (some ⟨g, 0, none⟩) 32 32), .val (.slice (some ⟨g, 1, none⟩) (32 - 1) (32 - 1)), .val (.int .i64 (n : Int)), .byt (e8 n)] (fun wz => Below v2.heap.size v2 wz) (by kernel_rfl) (by kernel_rfl) (fun wz wz' hz hb => hz.trans (hb.mono hz.size)) ((Below.refl _ _).drew) (fun u => by simp only [puts, List.foldl_cons, List.foldl_nil]; go_simp; exact rfl) ?_ ?_
    · simp only [List.take_succ_cons, List.take_zero]
      refine Obs.cons (fun u w hS hd => ?_) ?_
      · exact Gv.run (.slice (some ⟨g, 0, none⟩) 32 32) rfl (by go_simp) rfl
      refine Obs.cons (fun u w hS hd => ?_) ?_
      · have d29 : u 29 = .slice (some ⟨g, 0, none⟩) 32 32 := dep hd 0 rfl
        rw [d29]
        exact Gv.run (.slice (some ⟨g, 1, none⟩) (32 - 1) (32 - 1)) rfl (by go_simp) rfl
      refine Obs.cons (fun u w hS hd => ?_) ?_
      · exact Gv.run (.int .i64 (n : Int)) rfl (by go_simp) rfl
      refine Obs.cons (fun u w hS hd => ?_) ?_
      · have d31 : u 31 = .int .i64 (n : Int) := dep hd 2 rfl
        rw [d31]
        refine Gv.call 42 #[.int .i64 (n : Int)] rfl (by go_simp) ((HE.out w).mono ?_)
        rintro e w' ⟨A, c, rfl, ho, hb⟩
        exact ⟨_, rfl, ⟨A, c, by rw [e8_len], ho.rd⟩, hb⟩
      exact Obs.nil
    · intro u wz hS hd
      have d30 : u 30 = .slice (some ⟨g, 1, none⟩) (32 - 1) (32 - 1) := hd 1 (by decide)
      obtain ⟨A, c, d32, hr⟩ := hd 3 (by decide)
      have hoz := own_f (HO.out.1.keep hS) (n := 32) (by simp)
      refine copy_to hoz hr (m := 8) (off := 1) (dl := 32 - 1) (dc := 32 - 1) (by rw [e8_len]; exact (Nat.min_eq_left (by omega)).symm) (by omega) (by go_simp) (by go_simp; exact d32) ?_
      have hz3 := av_put hoz 1 8 (bvf (e8 n))
      obtain ⟨w3, ew3⟩ : ∃ v, v = setA wz g 1 8 (bvf (e8 n)) := ⟨_, rfl⟩
      have HBz := Lib.hid (HB2.out.trans ((hS.mono HB2.out.size).trans ((av_only wz g 1 8 (bvf (e8 n))).below HG.out)))
      rw [← ew3] at hz3 HBz ⊢
      clear ew3 hoz hr hS hd
      have HZ := Lib.hid hz3
      clear hz3
      go_wp2_with fail
      go_ret
      refine ⟨some ⟨g, 0, none⟩, 32, by rw [HS.out]; rfl, f_own (HZ.out.mono HG.out |>.congr fun k hk => ?_) (by rw [HL.out, HS.out]), HBz.out⟩
      have hc := HC.out k (by rw [HS.out]; exact hk)
      unfold fput bvf
      rw [hc]
      cases k with
      | zero => rw [if_neg (by omega), if_pos rfl]; unfold nth; rw [List.getElem?_set_self (by rw [List.length_replicate]; omega)]; rfl
      | succ k =>
        rw [if_neg (Nat.succ_ne_zero k)]
        by_cases h9 : k + 1 < 9
        · rw [if_pos (by omega), if_pos h9]
        · rw [if_neg (by omega), if_neg h9]
          unfold nth
          rw [List.getElem?_set_ne (by omega), List.getElem?_replicate, if_pos (by omega)]
          rfl
end Go.Proofs.Ytdddcgkgellbgab
