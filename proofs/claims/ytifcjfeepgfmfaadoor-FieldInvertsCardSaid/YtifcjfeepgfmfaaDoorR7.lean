import Derived.Test.YtifcjfeepgfmfaaDoorR6
namespace Go.Proofs.YtifcjfeepgfmfaaDoor
open Go Go.RowKit
/-- An array of sixteen digits, great or not. -/
def gl (f : Nat → Nat) : List Value := (List.range 16).map fun j => .int .i64 (f j : Int)
theorem gl_d16 (x : Nat) : gl (d16 x) = fl x := rfl
def nvf (f : Nat → Nat) (j : Nat) : Value := .int .i64 (f j : Int)
theorem gl_congr {f g : Nat → Nat} (h : ∀ j, j < 16 → f j = g j) : gl f = gl g := List.map_congr_left fun j hj => by rw [h j (by simpa using hj)]
/-- The k first of the digits are settled. -/
def psv (c : Nat) (f : Nat → Nat) (k j : Nat) : Value := .int .i64 ((if j < k then d16 (val c f 16) j else f j : Nat) : Int)
theorem psv_zero (c : Nat) (f : Nat → Nat) (j : Nat) : psv c f 0 j = nvf f j := by simp [psv, nvf]
theorem psv_out {c k : Nat} {f : Nat → Nat} : psv c f k k = .int .i64 (f k : Int) := by simp [psv]
theorem psv_full {c j : Nat} {f : Nat → Nat} (h : j < 16) : psv c f 16 j = .int .i64 (d16 (val c f 16) j : Int) := by simp [psv, h]
theorem psv_set (c : Nat) (f : Nat → Nat) (k j : Nat) (v : Value) : (if j = k then .int .i64 (d16 (val c f 16) k : Int) else if j = k then v else psv c f k j) = psv c f (k + 1) j := by
  by_cases h : j = k
  · subst h; rw [if_pos rfl]; unfold psv; rw [if_pos (by omega)]
  · rw [if_neg h, if_neg h]; unfold psv
    by_cases h2 : j < k
    · rw [if_pos h2, if_pos (by omega)]
    · rw [if_neg h2, if_neg (by omega)]
theorem O4one {w : World} {B g x : Nat} (h : O16 w B g x) {g' : Nat} (hg : g' ≠ g) (k : Nat) (v : Value) : O16 (w.setCell ⟨g', k, none⟩ v) B g x := OwnF.other h (p := ⟨g', k, none⟩) hg v
def Hn (v : Nat) : Nat → Nat
  | 0 => v
  | n + 1 => HH (Hn v n)
theorem Hn_lt {v : Nat} (h : v < W4) : ∀ n, Hn v n < W4
  | 0 => h
  | n + 1 => HH_lt (Hn_lt h n)
theorem Hn_two {v : Nat} (h : v < W4) : Hn v 2 < H25 ∧ Hn v 2 % P25 = v % P25 := by
  have e : Hn v 2 = HH (HH v) := rfl
  rw [e, HH_mod, HH_mod]
  exact ⟨HH_two h, rfl⟩
theorem ff_set {f : Nat → Nat} {n j c : Nat} (hc : c = d16 (val 0 (FF f n) 16) 0 + 38 * cyr 0 (FF f n) 16) (hj : j < 16) : (if j = 0 then .int .i64 (c : Int) else psv 0 (FF f n) 16 j) = nvf (FF f (n + 1)) j := by
  have e : FF f (n + 1) j = d16 (val 0 (FF f n) 16) j + if j = 0 then 38 * (val 0 (FF f n) 16 / W4) else 0 := rfl
  unfold nvf
  rw [e, cyr16]
  by_cases h : j = 0
  · subst h; rw [if_pos rfl, if_pos rfl, hc]
  · rw [if_neg h, if_neg h, psv_full hj, Nat.add_zero]
theorem top_set {v j : Nat} (h : v < W4) (hj : j < 16) : (if j = 15 then .int .i64 ((d16 v 15 % 32768 : Nat) : Int) else nvf (d16 v) j) = nvf (d16 (v % H25)) j := by
  unfold nvf
  by_cases e : j = 15
  · subst e; rw [if_pos rfl, d16_mod h]
  · rw [if_neg e, d16_low (by omega)]
theorem O16.one {w : World} {B g x : Nat} (h : O16 w B g x) {g' : Nat} (hg : g' ≠ g) (k k2 : Nat) (v v2 : Value) : O16 ((w.setCell ⟨g', k, none⟩ v).setCell ⟨g', k2, none⟩ v2) B g x := OwnF.other (OwnF.other h (p := ⟨g', k, none⟩) hg v) (p := ⟨g', k2, none⟩) hg v2
attribute [local irreducible] wd by8 d16 set16w fl val cyr FF gl
set_option maxRecDepth 20000
set_option maxHeartbeats 3200000 in
theorem settled_any {f : Nat → Nat} (hf : ∀ j, f j ≤ BB) (w : World) :
    Calls Tryd.prog 48 #[.agg (gl f).toArray] w fun e w' => e = .returned (fv (val 0 f 16 % P25)) ∧ Below w.heap.size w w' := by
  have HF := Lib.hid hf
  obtain ⟨r, hr⟩ : ∃ r, r = val 0 f 16 % P25 := ⟨_, rfl⟩
  rw [← hr]
  have HR := Lib.hid hr
  have hs : (w.alloc (.cells (gl f).toArray 26)).heap.size = w.heap.size + 1 := by simp
  have ox : OwnF (w.alloc (.cells (gl f).toArray 26)) w.heap.size 26 (some ⟨w.heap.size, 0, none⟩) 16 16 (nvf f) := OwnF.lit _ (Nat.le_refl _) _ 16 _ (by decide) (by unfold gl; rfl)
  replace ox := OwnF.keep ox ((Below.refl _ _).alloc (Nat.le_refl _) Z16)
  have oz := O16.zero (own_Z16 (w := w.alloc (.cells (gl f).toArray 26)) (B := w.heap.size) (by omega))
  rw [hs] at oz
  have hc := ((Below.refl _ w).alloc (Nat.le_refl _) (.cells (gl f).toArray 26)).alloc (by omega) Z16
  have hne : w.heap.size ≠ w.heap.size + 1 := by omega
  clear hr hf hs
  go_enter Tryd.func48, Tryd.ntmps48
  go_wp2_with fail
  obtain ⟨v0, e0⟩ : ∃ u, u = (w.alloc (.cells (gl f).toArray 26)).alloc Z16 := ⟨_, rfl⟩
  rw [← e0] at ox oz hc ⊢
  clear e0
  go_loopw [3] (fun i wr => ∃ n : Nat, n ≤ 5 ∧ i = .int .i64 n ∧ OwnF wr w.heap.size 26 (some ⟨w.heap.size, 0, none⟩) 16 16 (nvf (FF f n)) ∧ O16 wr w.heap.size (w.heap.size + 1) 0 ∧ Below w.heap.size w wr)
    (fun i _ => 5 - (intOf i).toNat)
  case atStart => exact ⟨0, by omega, rfl, ox.congr (fun j _ => by unfold FF; rfl), oz, hc⟩
  case round =>
    clear ox oz hc
    obtain ⟨n, hn, rfl, ox, oz, hc⟩ := hrel
    by_cases hlt : n < 5
    · have g1 : (n : Int) < 5 := by omega
      have hfl := FF_le HF.out n
      obtain ⟨F, hF⟩ : ∃ F, F = FF f n := ⟨_, rfl⟩
      have HF2 := Lib.hid hF
      rw [← hF] at hfl ox
      have HL := Lib.hid hfl
      clear hF hfl
      obtain ⟨w0, e0⟩ : ∃ w0 : World, w0 = wr := ⟨_, rfl⟩
      subst e0
      go_wp2_with fail
      go_loopw [4, 5] (fun cc i wr => ∃ k : Nat, k ≤ 16 ∧ i = .int .i64 k ∧ cc = .int .i64 (cyr 0 F k : Int) ∧ OwnF wr w.heap.size 26 (some ⟨w.heap.size, 0, none⟩) 16 16 (psv 0 F k) ∧ O16 wr w.heap.size (w.heap.size + 1) 0 ∧ Below w.heap.size w wr)
        (fun _ i _ => 16 - (intOf i).toNat)
      case atStart => exact ⟨0, by omega, rfl, by rw [cyr_zero]; rfl, ox.congr (fun j _ => (psv_zero _ _ _).symm), oz, hc⟩
      case round =>
        clear ox oz hc
        obtain ⟨k, hk, rfl, rfl, ox, oz, hc⟩ := hrel
        by_cases hlt2 : k < 16
        · have g2 : (k : Int) < 16 := by omega
          have c1 := OwnF.cell ox hlt2
          rw [psv_out] at c1
          have f1 := OwnF.free ox k
          have b1 := HL.out k
          have b2 := cyr_le HL.out (c := 0) (by decide) k
          unfold BB at b1
          have a1 : IntKind.i64.wrap ((F k : Int) + (cyr 0 F k : Int)) = ((F k + cyr 0 F k : Nat) : Int) := by rw [IntKind.wrap_i64]; omega
          have ox2 := OwnF.set_ ox k (.int .i64 ((F k + cyr 0 F k : Nat) : Int))
          have c2 := OwnF.cell ox2 hlt2
          rw [if_pos rfl] at c2
          have f2 := OwnF.free ox2 k
          have ht1 : ((F k + cyr 0 F k : Nat) : Int).tdiv 65536 = ((cyr 0 F (k + 1) : Nat) : Int) := by rw [Int.tdiv_eq_ediv_of_nonneg (by omega), cyr_succ]; omega
          have ht1' : ((F k + cyr 0 F k : Nat) : Int) / 65536 = ((cyr 0 F (k + 1) : Nat) : Int) := by rw [cyr_succ]; omega
          have ht2 : ((F k + cyr 0 F k : Nat) : Int).tmod 65536 = ((d16 (val 0 F 16) k : Nat) : Int) := by rw [Int.tmod_eq_emod_of_nonneg (by omega), val_at hlt2]; omega
          have ht2' : ((F k + cyr 0 F k : Nat) : Int) % 65536 = ((d16 (val 0 F 16) k : Nat) : Int) := by rw [val_at hlt2]; omega
          have b3 := cyr_le HL.out (c := 0) (by decide) (k + 1)
          have aw : IntKind.i64.wrap ((cyr 0 F (k + 1) : Nat) : Int) = ((cyr 0 F (k + 1) : Nat) : Int) := by rw [IntKind.wrap_i64]; omega
          clear b1 b2 b3
          generalize F k + cyr 0 F k = T at *
          go_wp2_with fail
          go_roundw
          case rel =>
            refine ⟨k + 1, by omega, by go_num, rfl, ?_, O16.one oz (by omega) _ _ _ _, (hc.setCell (by simp) _).setCell (by simp) _⟩
            exact OwnF.congr (OwnF.set_ ox2 k _) fun j _ => psv_set 0 F k j _
          case measure => simp [intOf]; omega
        · obtain rfl : k = 16 := by omega
          have c0 := OwnF.cell ox (k := 0) (by decide)
          rw [psv_full (by decide)] at c0
          have f0 := OwnF.free ox 0
          have b1 := d16_lt (val 0 F 16) 0
          have b2 := cyr_le HL.out (c := 0) (by decide) 16
          have a1 : IntKind.i64.wrap (38 * (cyr 0 F 16 : Int)) = 38 * (cyr 0 F 16 : Int) := by rw [IntKind.wrap_i64]; omega
          obtain ⟨e, he⟩ : ∃ e, e = d16 (val 0 F 16) 0 + 38 * cyr 0 F 16 := ⟨_, rfl⟩
          have a2 : IntKind.i64.wrap ((d16 (val 0 F 16) 0 : Int) + 38 * (cyr 0 F 16 : Int)) = (e : Int) := by rw [he, IntKind.wrap_i64]; omega
          have HE := Lib.hid he
          clear b1 b2 he
          go_wp2_with fail
          go_roundw
          case rel =>
            refine ⟨n + 1, by omega, by go_num, ?_, O4one oz (by omega) _ _, hc.setCell (by simp) _⟩
            refine OwnF.congr (OwnF.set_ ox 0 _) fun j hj => ?_
            rw [HF2.out]
            exact ff_set (by rw [← HF2.out]; exact HE.out) hj
          case measure => simp [intOf]; omega
    · obtain rfl : n = 5 := by omega
      obtain ⟨v, hvW, hvm, hvd⟩ := FF_end HF.out
      replace ox : OwnF wr w.heap.size 26 (some ⟨w.heap.size, 0, none⟩) 16 16 (nvf (d16 v)) := OwnF.congr ox fun j hj => by unfold nvf; rw [hvd j hj]
      have HW := Lib.hid hvW
      have HM := Lib.hid hvm
      clear hvW hvm hvd
      obtain ⟨w0, e0⟩ : ∃ w0 : World, w0 = wr := ⟨_, rfl⟩
      subst e0
      go_wp2_with fail
      go_loopw [6] (fun i wr => ∃ n : Nat, n ≤ 2 ∧ i = .int .i64 n ∧ OwnF wr w.heap.size 26 (some ⟨w.heap.size, 0, none⟩) 16 16 (nvf (d16 (Hn v n))) ∧ O16 wr w.heap.size (w.heap.size + 1) 0 ∧ Below w.heap.size w wr)
        (fun i _ => 2 - (intOf i).toNat)
      case atStart => exact ⟨0, by omega, rfl, ox, oz, hc⟩
      case round =>
        clear ox oz hc
        obtain ⟨n, hn, rfl, ox, oz, hc⟩ := hrel
        by_cases hlt : n < 2
        · have g1 : (n : Int) < 2 := by omega
          have hTW := Hn_lt HW.out n
          obtain ⟨T, hT⟩ : ∃ T, T = Hn v n := ⟨_, rfl⟩
          have HT := Lib.hid hT
          rw [← hT] at hTW ox
          have HTW := Lib.hid hTW
          have c15 := OwnF.cell ox (k := 15) (by decide)
          unfold nvf at c15
          have f15 := OwnF.free ox 15
          have l15 := d16_lt T 15
          have htop := d16_top hTW
          have a1 : ((d16 T 15 : Nat) : Int).tdiv 32768 = ((T / H25 : Nat) : Int) := by rw [Int.tdiv_eq_ediv_of_nonneg (by omega), ← htop]; omega
          have a1' : ((d16 T 15 : Nat) : Int) / 32768 = ((T / H25 : Nat) : Int) := by rw [← htop]; omega
          have aw : IntKind.i64.wrap ((T / H25 : Nat) : Int) = ((T / H25 : Nat) : Int) := by rw [← htop, IntKind.wrap_i64]; omega
          have a2 : IntKind.i64.wrap (19 * ((T / H25 : Nat) : Int)) = ((19 * (T / H25) : Nat) : Int) := by rw [← htop, IntKind.wrap_i64]; omega
          have a3 : ((d16 T 15 : Nat) : Int).tmod 32768 = ((d16 T 15 % 32768 : Nat) : Int) := by rw [Int.tmod_eq_emod_of_nonneg (by omega)]; omega
          have a3' : ((d16 T 15 : Nat) : Int) % 32768 = ((d16 T 15 % 32768 : Nat) : Int) := by omega
          have hcl : 19 * (T / H25) ≤ 1073758208 := by rw [← htop]; omega
          have hval := HH_val hTW
          have ox2 : OwnF (wr.setCell ⟨w.heap.size, 15, none⟩ (.int .i64 ((d16 T 15 % 32768 : Nat) : Int))) w.heap.size 26 (some ⟨w.heap.size, 0, none⟩) 16 16 (nvf (d16 (T % H25))) := OwnF.congr (OwnF.set_ ox 15 _) fun j hj => top_set hTW hj
          have oz2 := O4one oz (g' := w.heap.size) (by omega) 15 (.int .i64 ((d16 T 15 % 32768 : Nat) : Int))
          have hc2 := hc.setCell (p := ⟨w.heap.size, 15, none⟩) (by simp) (.int .i64 ((d16 T 15 % 32768 : Nat) : Int))
          obtain ⟨Q, hQ⟩ : ∃ Q, Q = T / H25 := ⟨_, rfl⟩
          obtain ⟨C, hC⟩ : ∃ C, C = 19 * (T / H25) := ⟨_, rfl⟩
          obtain ⟨R, hR2⟩ : ∃ R, R = d16 T 15 % 32768 := ⟨_, rfl⟩
          rw [← hC] at a2 hcl hval
          rw [← hQ] at a1 a1' aw a2
          rw [← hR2] at a3 a3' ox2 oz2 hc2
          have HVL := Lib.hid hval
          have HCL := Lib.hid hcl
          have HFL := Lib.hid (fun j => Nat.le_trans (Nat.le_of_lt (d16_lt (T % H25) j)) (show 65536 ≤ BB by decide))
          clear hT hTW l15 htop hcl hval hQ hC hR2 ox oz hc
          obtain ⟨G, hG⟩ : ∃ G, G = d16 (T % H25) := ⟨_, rfl⟩
          rw [← hG] at ox2 HVL HFL
          clear hG
          go_wp2_with fail
          obtain ⟨w0, e0⟩ : ∃ w0 : World, w0 = wr.setCell ⟨w.heap.size, 15, none⟩ (.int .i64 (R : Int)) := ⟨_, rfl⟩
          rw [← e0] at ox2 oz2 hc2 ⊢
          clear e0 c15 f15
          go_loopw [7, 8] (fun cc i wr => ∃ k : Nat, k ≤ 16 ∧ i = .int .i64 k ∧ cc = .int .i64 (cyr C G k : Int) ∧ OwnF wr w.heap.size 26 (some ⟨w.heap.size, 0, none⟩) 16 16 (psv C G k) ∧ O16 wr w.heap.size (w.heap.size + 1) 0 ∧ Below w.heap.size w wr)
            (fun _ i _ => 16 - (intOf i).toNat)
          case atStart => exact ⟨0, by omega, rfl, by rw [cyr_zero], ox2.congr (fun j _ => (psv_zero _ _ _).symm), oz2, hc2⟩
          case round =>
            clear ox2 oz2 hc2
            obtain ⟨k, hk, rfl, rfl, ox, oz, hc⟩ := hrel
            by_cases hlt2 : k < 16
            · have g2 : (k : Int) < 16 := by omega
              have c1 := OwnF.cell ox hlt2
              rw [psv_out] at c1
              have f1 := OwnF.free ox k
              have b1 := HFL.out k
              have b2 := cyr_le HFL.out HCL.out k
              unfold BB at b1
              have a1 : IntKind.i64.wrap ((G k : Int) + (cyr C G k : Int)) = ((G k + cyr C G k : Nat) : Int) := by rw [IntKind.wrap_i64]; omega
              have ox2 := OwnF.set_ ox k (.int .i64 ((G k + cyr C G k : Nat) : Int))
              have c2 := OwnF.cell ox2 hlt2
              rw [if_pos rfl] at c2
              have f2 := OwnF.free ox2 k
              have ht1 : ((G k + cyr C G k : Nat) : Int).tdiv 65536 = ((cyr C G (k + 1) : Nat) : Int) := by rw [Int.tdiv_eq_ediv_of_nonneg (by omega), cyr_succ]; omega
              have ht1' : ((G k + cyr C G k : Nat) : Int) / 65536 = ((cyr C G (k + 1) : Nat) : Int) := by rw [cyr_succ]; omega
              have ht2 : ((G k + cyr C G k : Nat) : Int).tmod 65536 = ((d16 (val C G 16) k : Nat) : Int) := by rw [Int.tmod_eq_emod_of_nonneg (by omega), val_at hlt2]; omega
              have ht2' : ((G k + cyr C G k : Nat) : Int) % 65536 = ((d16 (val C G 16) k : Nat) : Int) := by rw [val_at hlt2]; omega
              have b3 := cyr_le HFL.out HCL.out (k + 1)
              have aw : IntKind.i64.wrap ((cyr C G (k + 1) : Nat) : Int) = ((cyr C G (k + 1) : Nat) : Int) := by rw [IntKind.wrap_i64]; omega
              clear b1 b2 b3
              generalize G k + cyr C G k = Y at *
              go_wp2_with fail
              go_roundw
              case rel =>
                refine ⟨k + 1, by omega, by go_num, rfl, ?_, O16.one oz (by omega) _ _ _ _, (hc.setCell (by simp) _).setCell (by simp) _⟩
                exact OwnF.congr (OwnF.set_ ox2 k _) fun j _ => psv_set C G k j _
              case measure => simp [intOf]; omega
            · obtain rfl : k = 16 := by omega
              replace ox : OwnF wr w.heap.size 26 (some ⟨w.heap.size, 0, none⟩) 16 16 (nvf (d16 (Hn v (n + 1)))) := OwnF.congr ox fun j hj => by
                rw [psv_full hj, HVL.out, HT.out]; rfl
              go_wp2_with fail
              go_roundw
              case rel => exact ⟨n + 1, by omega, by go_num, ox, oz, hc⟩
              case measure => simp [intOf]; omega
        · obtain rfl : n = 2 := by omega
          obtain ⟨hl, hm⟩ := Hn_two HW.out
          have er : r = Hn v 2 % P25 := by rw [hm, HM.out, HR.out]
          have kl := fun w => least_any hl w
          rw [← er] at kl
          have KL := Lib.hid kl
          have oy : O16 wr w.heap.size w.heap.size (Hn v 2) := ox
          clear hl hm er kl ox
          generalize Hn v 2 = y at *
          go_wp2_with ((with_reducible refine fl_load oy ?_ ?_); rfl)
          go_at_call 69
          refine (KL.out _).mono ?_
          rintro e v9 ⟨rfl, h0⟩
          replace oz := oz.keep h0
          replace hc := hc.trans (h0.mono hc.size)
          clear h0 oy
          have hop := Lib.hid (oz.put r)
          have hbz := oz.below r
          go_wp2_with (first | ((with_reducible refine fl_store oz r ?_ ?_ ?_); rfl; rfl))
          exact bodyPost_ret (fres Tryd.results48 _ hop.out rfl) rfl ⟨rfl, hc.trans hbz⟩
end Go.Proofs.YtifcjfeepgfmfaaDoor
