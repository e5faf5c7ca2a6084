/-
  The document's Cut (layer 11). Written by tools/gen_po1.py. By an AI agent.
-/
import Derived.Test.YtmhfkabpfkoocaaDoorMD
import Derived.Test.YtmhfkabpfkoocaaDoorInv
import Derived.Test.YtmhfkabpfkoocaaDoorCp
import Derived.Test.YtmhfkabpfkoocaaDoorTS
namespace Go.Proofs.YtmhfkabpfkoocaaDoor
open Go Go.RowKit
set_option maxRecDepth 20000
theorem p_toF {w : World} {B c : Nat} {e : TypeId} {A : Option Addr} {bs : List UInt8} (h : Own w B e A c bs) : OwnF w B e A c bs.length (bvf bs) := by
  unfold Own at h
  unfold OwnF
  have : (List.range bs.length).map (bvf bs) = bs.map bv := by
    refine List.ext_getElem (by simp) fun i h1 h2 => ?_
    have h3 : i < bs.length := by simpa using h2
    simp only [List.getElem_map, List.getElem_range]
    unfold bvf bv
    rw [nth_get h3]
  rw [this]
  exact h
theorem p_ofF {w : World} {B c n : Nat} {e : TypeId} {A : Option Addr} {f : Nat → Value} {S : List UInt8} (h : OwnF w B e A c n f) (hl : S.length = n) (hf : ∀ k, k < n → f k = bvf S k) : Own w B e A c S := by
  unfold OwnF at h
  unfold Own
  have : (List.range n).map f = S.map bv := by
    refine List.ext_getElem (by simp [hl]) fun i h1 h2 => ?_
    have h3 : i < S.length := by simpa using h2
    simp only [List.getElem_map, List.getElem_range]
    rw [hf i (by omega)]
    unfold bvf bv
    rw [nth_get h3]
  rw [hl, ← this]
  exact h
theorem p_at0 {w : World} {B c n : Nat} {e : TypeId} {A : Option Addr} {f : Nat → Value} (h : OwnF w B e A c n f) (hn : 0 < n) : ∃ g, A = some ⟨g, 0, none⟩ := by
  obtain ⟨_, h2⟩ := h
  rcases h2 with ⟨_, h0⟩ | ⟨g, cap, cur, hv, _⟩
  · omega
  · simp only [Value.slice.injEq] at hv
    exact ⟨g, hv.1⟩
/-- A byte that is cut. -/
def cutn (r : List UInt8) (i : Nat) : Nat := if i % 4 = 3 then nth r i % 16 else if i % 4 = 0 ∧ 0 < i then nth r i - nth r i % 4 else nth r i
theorem cutn_lt (r : List UInt8) (i : Nat) : cutn r i < 256 := by
  have := nth_lt r i
  unfold cutn
  split
  · omega
  · split <;> omega
def cutL (r : List UInt8) : List UInt8 := gen (fun i => UInt8.ofNat (cutn r i)) 16
theorem cutL_len (r : List UInt8) : (cutL r).length = 16 := gen_length _ _
theorem cutL_nth (r : List UInt8) {k : Nat} (hk : k < 16) : nth (cutL r) k = cutn r k := by
  unfold cutL
  rw [nth_gen hk]
  have := cutn_lt r k
  simp
  omega
/-- The row behind k rounds of the first loop, .. -/
def f1n (r : List UInt8) (k j : Nat) : Nat := if j % 4 = 3 ∧ j < 4 * k + 3 then nth r j % 16 else nth r j
def f1v (r : List UInt8) (k j : Nat) : Value := .int .u8 ((f1n r k j : Nat) : Int)
theorem f1_zero (r : List UInt8) (j : Nat) : bvf r j = f1v r 0 j := by unfold bvf f1v f1n; rw [if_neg (by omega)]
theorem f1_at (r : List UInt8) {k t : Nat} (ht : t = 4 * k + 3) : f1v r k t = .int .u8 ((nth r t : Nat) : Int) := by unfold f1v f1n; rw [if_neg (by omega)]
theorem f1_step (r : List UInt8) {k t : Nat} (ht : t = 4 * k + 3) (j : Nat) : (if j = t then Value.int .u8 ((nth r t % 16 : Nat) : Int) else f1v r k j) = f1v r (k + 1) j := by
  unfold f1v f1n
  by_cases h : j = t
  · rw [if_pos h, if_pos (by omega), h]
  · rw [if_neg h]
    by_cases h2 : j % 4 = 3 ∧ j < 4 * k + 3
    · rw [if_pos h2, if_pos (by omega)]
    · rw [if_neg h2, if_neg (by omega)]
/-- .. and of the other one. -/
def f2v (r : List UInt8) (k j : Nat) : Value := .int .u8 ((if j % 4 = 0 ∧ 0 < j ∧ j < 4 * k + 4 then nth r j - nth r j % 4 else f1n r 4 j : Nat) : Int)
theorem f2_zero (r : List UInt8) (j : Nat) : f1v r 4 j = f2v r 0 j := by unfold f2v f1v; rw [if_neg (by omega)]
theorem f2_at (r : List UInt8) {k t : Nat} (ht : t = 4 * k + 4) : f2v r k t = .int .u8 ((nth r t : Nat) : Int) := by unfold f2v f1n; rw [if_neg (by omega), if_neg (by omega)]
theorem f2_step (r : List UInt8) {k t : Nat} (ht : t = 4 * k + 4) (j : Nat) : (if j = t then Value.int .u8 ((nth r t - nth r t % 4 : Nat) : Int) else f2v r k j) = f2v r (k + 1) j := by
  unfold f2v
  by_cases h : j = t
  · rw [if_pos h, if_pos (by omega), h]
  · rw [if_neg h]
    by_cases h2 : j % 4 = 0 ∧ 0 < j ∧ j < 4 * k + 4
    · rw [if_pos h2, if_pos (by omega)]
    · rw [if_neg h2, if_neg (by omega)]
theorem f2_full (r : List UInt8) {j : Nat} (hj : j < 16) : f2v r 3 j = bvf (cutL r) j := by
  unfold f2v bvf f1n
  rw [cutL_nth r hj]
  unfold cutn
  by_cases h1 : j % 4 = 3
  · rw [if_neg (by omega), if_pos (by omega), if_pos h1]
  · by_cases h2 : j % 4 = 0 ∧ 0 < j
    · rw [if_pos (by omega), if_neg h1, if_pos h2]
    · rw [if_neg (by omega), if_neg (by omega), if_neg h1, if_neg h2]
theorem rcut_bad {A : Option Addr} {n c : Nat} (hn : n ≠ 16) (w : World) :
    Calls Tryd.prog 34 #[.slice A n c] w fun e w' => e = .returned (.tuple #[.slice none 0 0, .int .i64 1]) ∧ Below w.heap.size w w' := by
  have g2 : ((n : Int) != 16) = true := by simp; omega
  go_enter Tryd.func34, Tryd.ntmps34
  go_wp2_with fail
  go_returns
  exact ⟨rfl, Below.refl _ _⟩
section
attribute [local irreducible] f1v f2v
set_option maxHeartbeats 1600000 in
theorem rcut_gen {A : Option Addr} {B c : Nat} {bs : List UInt8} (hl : bs.length = 16) (w : World) (hr : Rd w B A c bs) (hB : B ≤ w.heap.size) :
    Calls Tryd.prog 34 #[.slice A bs.length c] w fun e w' => ∃ A' c', e = .returned (.tuple #[.slice A' bs.length c', .int .i64 0]) ∧ Own w' w.heap.size 5 A' c' (cutL bs) ∧ Below w.heap.size w w' := by
  obtain ⟨i0, hi, hz0, hz1, hz2⟩ := info_parts infoByte
  have h2 : Rd (w.alloc (.cells #[] 5)) B A c bs := hr.keep ((Below.refl B w).alloc hB _)
  have h3 : Own (w.alloc (.cells #[] 5)) w.heap.size 5 (some ⟨w.heap.size, 0, none⟩) 0 [] := World.ownsRow_made w #[] 0 (Nat.le_refl _) (by decide) (by decide)
  have h4 : Below w.heap.size w (w.alloc (.cells #[] 5)) := (Below.refl _ w).alloc (Nat.le_refl _) _
  have g2 : ((bs.length : Int) != 16) = false := by simp; omega
  have g3 : ∀ t : Nat, t < 16 → (t : Int) < (bs.length : Int) := fun t ht => by omega
  have G3 := Lib.hid g3
  clear g3
  go_enter Tryd.func34, Tryd.ntmps34
  go_wp2_with (at_builtin; refine wpList_app _ rfl (.tmp 10) (.tmp 11) _ rfl w.heap.size 5 i0 _ Tryd.underlying22 hi hz0 hz1 hz2 rfl (xs := []) rfl h3 rfl h2 (by simp only [List.length_nil]; omega) (by simp) ?_; intro A1 c1 v1 ho hb)
  replace ho : Own v1 w.heap.size 5 A1 c1 bs := ho
  replace ho := p_toF ho
  rw [hl] at ho
  replace ho : OwnF v1 w.heap.size 5 A1 c1 16 (f1v bs 0) := OwnF.congr ho fun k _ => f1_zero bs k
  have hc := h4.trans hb
  clear h2 h3 h4 hb hr
  obtain ⟨g, rfl⟩ := p_at0 ho (by decide)
  have hcap := ho.rd.cap
  go_loopw [5] (fun i wr => ∃ k : Nat, k ≤ 4 ∧ i = .int .i64 ((4 * k + 3 : Nat) : Int) ∧ OwnF wr w.heap.size 5 (some ⟨g, 0, none⟩) c1 16 (f1v bs k) ∧ Below w.heap.size w wr)
    (fun i _ => 20 - (intOf i).toNat)
  case atStart => exact ⟨0, by omega, rfl, ho, hc⟩
  case round =>
    obtain ⟨k, hk, rfl, ok, hb⟩ := hrel
    clear ho hc
    obtain ⟨t, et⟩ : ∃ t, t = 4 * k + 3 := ⟨_, rfl⟩
    rw [← et]
    have ht : t ≤ 19 := by omega
    by_cases hlt : k < 4
    · obtain ⟨g1, gl⟩ : (t : Int) < 16 ∧ (t : Int) < (bs.length : Int) := ⟨by omega, G3.out t (by omega)⟩
      have cl : wr.cell? ⟨g, t, none⟩ = some (.int .u8 ((nth bs t : Nat) : Int)) := by rw [OwnF.cell ok (k := t) (by omega), f1_at bs et]
      have fr := OwnF.free ok t
      have hn := nth_lt bs t
      have e1 : ((nth bs t : Nat) : Int).tmod 16 = ((nth bs t % 16 : Nat) : Int) := by rw [Int.tmod_eq_emod_of_nonneg (by omega)]; omega
      have e2 : IntKind.u8.wrap ((nth bs t % 16 : Nat) : Int) = ((nth bs t % 16 : Nat) : Int) := by rw [IntKind.wrap_u8]; omega
      have o2 := (OwnF.set_ ok t (.int .u8 ((nth bs t % 16 : Nat) : Int))).congr (g := f1v bs (k + 1)) fun j _ => f1_step bs et j
      have hb2 := hb.setCell (p := ⟨g, t, none⟩) (OwnF.ge ok) (.int .u8 ((nth bs t % 16 : Nat) : Int))
      have e3 : IntKind.i64.wrap ((t : Int) + 4) = ((4 * (k + 1) + 3 : Nat) : Int) := by rw [IntKind.wrap_i64]; omega
      have HE := Lib.hid et
      generalize nth bs t = x at *
      generalize x % 16 = y at *
      obtain ⟨z, ez⟩ : ∃ z, z = 4 * (k + 1) + 3 := ⟨_, rfl⟩
      rw [← ez] at e3
      have HZ := Lib.hid ez
      clear et ez hn
      go_wp2_with fail
      go_roundw
      case rel => exact ⟨k + 1, by omega, by rw [HZ.out], o2, hb2⟩
      case measure => have := HZ.out; have := HE.out; simp [intOf]; omega
    · obtain rfl : k = 4 := by omega
      replace ok : OwnF wr w.heap.size 5 (some ⟨g, 0, none⟩) c1 16 (f2v bs 0) := OwnF.congr ok fun k _ => f2_zero bs k
      have g1 : ¬ (t : Int) < 16 := by omega
      clear et ht
      go_wp2_with fail
      obtain ⟨w0, e0⟩ : ∃ v, v = wr := ⟨_, rfl⟩
      rw [← e0] at ok hb ⊢
      clear e0 wr
      go_loopw [6] (fun i wr => ∃ k : Nat, k ≤ 3 ∧ i = .int .i64 ((4 * k + 4 : Nat) : Int) ∧ OwnF wr w.heap.size 5 (some ⟨g, 0, none⟩) c1 16 (f2v bs k) ∧ Below w.heap.size w wr)
        (fun i _ => 20 - (intOf i).toNat)
      case atStart => exact ⟨0, by omega, rfl, ok, hb⟩
      case round =>
        clear ok hb
        obtain ⟨k, hk, rfl, ok, hb⟩ := hrel
        obtain ⟨t, et⟩ : ∃ t, t = 4 * k + 4 := ⟨_, rfl⟩
        rw [← et]
        have ht : t ≤ 16 := by omega
        by_cases hlt : k < 3
        · obtain ⟨g1, gl⟩ : (t : Int) < 16 ∧ (t : Int) < (bs.length : Int) := ⟨by omega, G3.out t (by omega)⟩
          have HO := Lib.hid (fun wz (hz : Below wr.heap.size wr wz) => show wz.cell? ⟨g, t, none⟩ = some (.int .u8 ((nth bs t : Nat) : Int)) by rw [OwnF.cell (OwnF.keep ok hz) (k := t) (by omega), f2_at bs et])
          have hn := nth_lt bs t
          have e1 : ((nth bs t : Nat) : Int).tmod 4 = ((nth bs t % 4 : Nat) : Int) := by rw [Int.tmod_eq_emod_of_nonneg (by omega)]; omega
          have e2 : IntKind.u8.wrap ((nth bs t % 4 : Nat) : Int) = ((nth bs t % 4 : Nat) : Int) := by rw [IntKind.wrap_u8]; omega
          have e4 : IntKind.u8.wrap ((nth bs t : Int) - ((nth bs t % 4 : Nat) : Int)) = ((nth bs t - nth bs t % 4 : Nat) : Int) := by rw [IntKind.wrap_u8]; omega
          have e3 : IntKind.i64.wrap ((t : Int) + 4) = ((4 * (k + 1) + 4 : Nat) : Int) := by rw [IntKind.wrap_i64]; omega
          have HF := Lib.hid (f2_step bs et)
          have HE := Lib.hid et
          generalize nth bs t = x at *
          generalize x - x % 4 = y at *
          generalize x % 4 = m at *
          obtain ⟨z, ez⟩ : ∃ z, z = 4 * (k + 1) + 4 := ⟨_, rfl⟩
          rw [← ez] at e3
          have HZ := Lib.hid ez
          have HOK := Lib.hid ok
          clear et ez hn ok
          go_upto_region 11 with fail
          refine wp_region_inv 13 [29, 30, 31, 32, 33, 34, 35, 36, 37, 38, 39, 40, 41] [.val (.slice (some ⟨g, 0, none⟩) bs.length c1), .val (.int .i64 (t : Int)), .val (.slice (some ⟨g, 0, none⟩) bs.length c1), .val (.int .i64 (t : Int)), .val (.pointer (some ⟨g, t, none⟩)), .val (.int .u8 (x : Int)), .val (.slice (some ⟨g, 0, none⟩) bs.length c1), .val (.int .i64 (t : Int)), .val (.pointer (some ⟨g, t, none⟩)), .val (.int .u8 (x : Int)), .val (.int .u8 (m : Int)), .val (.int .u8 (y : Int)), .val (.pointer (some ⟨g, t, none⟩))] (fun wz => Below wr.heap.size wr wz) (by kernel_rfl) (by kernel_rfl) (fun wz wz' hz hb => hz.trans (hb.mono hz.size)) ((Below.refl _ _).drew) (fun u => by simp only [puts, List.foldl_cons, List.foldl_nil]; go_simp; exact rfl) ?_ ?_
          · simp only [List.take_succ_cons, List.take_zero]
            refine Obs.cons (fun u w hS hd => ?_) ?_
            · exact Gv.run (.slice (some ⟨g, 0, none⟩) bs.length c1) rfl (by go_simp) rfl
            refine Obs.cons (fun u w hS hd => ?_) ?_
            · exact Gv.run (.int .i64 (t : Int)) rfl (by go_simp) rfl
            refine Obs.cons (fun u w hS hd => ?_) ?_
            · exact Gv.run (.slice (some ⟨g, 0, none⟩) bs.length c1) rfl (by go_simp) rfl
            refine Obs.cons (fun u w hS hd => ?_) ?_
            · exact Gv.run (.int .i64 (t : Int)) rfl (by go_simp) rfl
            refine Obs.cons (fun u w hS hd => ?_) ?_
            · have d31 : u 31 = .slice (some ⟨g, 0, none⟩) bs.length c1 := dep hd 2 rfl
              have d32 : u 32 = .int .i64 (t : Int) := dep hd 3 rfl
              rw [d31, d32]
              exact Gv.run (.pointer (some ⟨g, t, none⟩)) rfl (by go_simp) rfl
            refine Obs.cons (fun u w hS hd => ?_) ?_
            · have d33 : u 33 = .pointer (some ⟨g, t, none⟩) := dep hd 4 rfl
              rw [d33]
              exact Gv.run (.int .u8 (x : Int)) rfl (by have hcl := HO.out w hS; go_simp) rfl
            refine Obs.cons (fun u w hS hd => ?_) ?_
            · exact Gv.run (.slice (some ⟨g, 0, none⟩) bs.length c1) rfl (by go_simp) rfl
            refine Obs.cons (fun u w hS hd => ?_) ?_
            · exact Gv.run (.int .i64 (t : Int)) rfl (by go_simp) rfl
            refine Obs.cons (fun u w hS hd => ?_) ?_
            · have d35 : u 35 = .slice (some ⟨g, 0, none⟩) bs.length c1 := dep hd 6 rfl
              have d36 : u 36 = .int .i64 (t : Int) := dep hd 7 rfl
              rw [d35, d36]
              exact Gv.run (.pointer (some ⟨g, t, none⟩)) rfl (by go_simp) rfl
            refine Obs.cons (fun u w hS hd => ?_) ?_
            · have d37 : u 37 = .pointer (some ⟨g, t, none⟩) := dep hd 8 rfl
              rw [d37]
              exact Gv.run (.int .u8 (x : Int)) rfl (by have hcl := HO.out w hS; go_simp) rfl
            refine Obs.cons (fun u w hS hd => ?_) ?_
            · have d38 : u 38 = .int .u8 (x : Int) := dep hd 9 rfl
              rw [d38]
              exact Gv.run (.int .u8 (m : Int)) rfl (by go_simp) rfl
            refine Obs.cons (fun u w hS hd => ?_) ?_
            · have d34 : u 34 = .int .u8 (x : Int) := dep hd 5 rfl
              have d39 : u 39 = .int .u8 (m : Int) := dep hd 10 rfl
              rw [d34, d39]
              exact Gv.run (.int .u8 (y : Int)) rfl (by go_simp) rfl
            refine Obs.cons (fun u w hS hd => ?_) ?_
            · have d29 : u 29 = .slice (some ⟨g, 0, none⟩) bs.length c1 := dep hd 0 rfl
              have d30 : u 30 = .int .i64 (t : Int) := dep hd 1 rfl
              rw [d29, d30]
              exact Gv.run (.pointer (some ⟨g, t, none⟩)) rfl (by go_simp) rfl
            exact Obs.nil
          · intro u v2 hS hd
            have d40 : u 40 = .int .u8 (y : Int) := hd 11 (by decide)
            have d41 : u 41 = .pointer (some ⟨g, t, none⟩) := hd 12 (by decide)
            rw [d40, d41]
            have hcl := HO.out v2 hS
            have ok := HOK.out.keep hS
            have fr := OwnF.free ok t
            have o2 := (OwnF.set_ ok t (.int .u8 (y : Int))).congr (g := f2v bs (k + 1)) fun j _ => HF.out j
            have hb2 := (hb.trans (hS.mono hb.size)).setCell (p := ⟨g, t, none⟩) (OwnF.ge ok) (.int .u8 (y : Int))
            simp only [List.drop_succ_cons, List.drop_zero]
            go_wp2_with fail
            go_roundw
            case rel => exact ⟨k + 1, by omega, by rw [HZ.out], o2, hb2⟩
            case measure => have := HZ.out; have := HE.out; simp [intOf]; omega
        · obtain rfl : k = 3 := by omega
          have g1 : ¬ (t : Int) < 16 := by omega
          clear et ht
          go_wp2_with fail
          go_returns
          exact ⟨_, _, rfl, p_ofF ok (cutL_len _) fun k hk => f2_full bs hk, hb⟩
theorem rcut_any {A : Option Addr} {B c : Nat} {bs : List UInt8} (hl : bs.length = 16) (w : World) (hr : Rd w B A c bs) (hB : B ≤ w.heap.size) :
    Calls Tryd.prog 34 #[.slice A 16 c] w fun e w' => ∃ A' c', e = .returned (.tuple #[.slice A' 16 c', .int .i64 0]) ∧ Own w' w.heap.size 5 A' c' (cutL bs) ∧ Below w.heap.size w w' := by
  have h := rcut_gen hl w hr hB
  rwa [hl] at h
end
end Go.Proofs.YtmhfkabpfkoocaaDoor
