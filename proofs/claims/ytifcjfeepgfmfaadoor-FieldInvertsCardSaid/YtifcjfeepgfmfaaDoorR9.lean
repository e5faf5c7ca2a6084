import Derived.Test.YtifcjfeepgfmfaaDoorR8
namespace Go.Proofs.YtifcjfeepgfmfaaDoor
open Go Go.RowKit
attribute [local irreducible] wd by8 d16 set16w fl val cyr FF gl fold
set_option maxRecDepth 20000
set_option maxHeartbeats 3200000 in
theorem rmul_any {x y : Nat} (hx : x < W4) (hy : y < W4) (w : World) :
    Calls Tryd.prog 27 #[fv x, fv y] w fun e w' => e = .returned (fv (x * y % P25)) ∧ Below w.heap.size w w' := by
  obtain ⟨r, hr⟩ : ∃ r, r = x * y % P25 := ⟨_, rfl⟩
  rw [← hr]
  have HR := Lib.hid hr
  have HX := Lib.hid hx
  have HY := Lib.hid hy
  have s1 : (w.alloc (A16 x)).heap.size = w.heap.size + 1 := by simp
  have s2 : ((w.alloc (A16 x)).alloc (A16 y)).heap.size = w.heap.size + 2 := by simp
  have s3 : (((w.alloc (A16 x)).alloc (A16 y)).alloc Z16).heap.size = w.heap.size + 3 := by simp
  have ox := (((O16.new (w := w) (Nat.le_refl _) x).alloc (A16 y)).alloc Z16).alloc A31
  have oy := ((O16.new (w := w.alloc (A16 x)) (B := w.heap.size) (by omega) y).alloc Z16).alloc A31
  have oz := (O16.zero (own_Z16 (w := (w.alloc (A16 x)).alloc (A16 y)) (B := w.heap.size) (by omega))).alloc A31
  have od := own_31 (w := ((w.alloc (A16 x)).alloc (A16 y)).alloc Z16) (B := w.heap.size) (by omega)
  rw [s1] at oy
  rw [s2] at oz
  rw [s3] at od
  have hc := ((((Below.refl _ w).alloc (Nat.le_refl _) (A16 x)).alloc (by omega) (A16 y)).alloc (by omega) Z16).alloc (by omega) A31
  unfold A31 at ox oy oz od hc
  clear hr hx hy s1 s2 s3
  go_enter Tryd.func27, Tryd.ntmps27
  go_wp2_with fail
  obtain ⟨v0, e0⟩ : ∃ u, u = (((w.alloc (A16 x)).alloc (A16 y)).alloc Z16).alloc A31 := ⟨_, rfl⟩
  have e0' := e0
  unfold A31 at e0
  rw [← e0] at ox oy oz od hc ⊢
  clear e0 e0'
  go_loopw [6] (fun ii wr => ∃ i : Nat, i ≤ 16 ∧ ii = .int .i64 i ∧ O16 wr w.heap.size w.heap.size x ∧ O16 wr w.heap.size (w.heap.size + 1) y ∧ O16 wr w.heap.size (w.heap.size + 2) 0 ∧ (∃ D, Conv x y i 0 D ∧ OwnF wr w.heap.size 67 (some ⟨w.heap.size + 3, 0, none⟩) 31 31 (nvf D)) ∧ Below w.heap.size w wr)
    (fun ii _ => 16 - (intOf ii).toNat)
  case atStart => exact ⟨0, by omega, rfl, ox, oy, oz, ⟨_, Conv.start x y, od⟩, hc⟩
  case round =>
    clear ox oy oz od hc
    obtain ⟨i, hi, rfl, ox, oy, oz, ⟨D, hD, od⟩, hc⟩ := hrel
    have HD := Lib.hid hD
    clear hD
    by_cases hlt : i < 16
    · have g1 : (i : Int) < 16 := by omega
      obtain ⟨w0, e0⟩ : ∃ w0 : World, w0 = wr := ⟨_, rfl⟩
      subst e0
      go_wp2_with fail
      go_loopw [7] (fun kk wr => ∃ k : Nat, k ≤ 16 ∧ kk = .int .i64 k ∧ O16 wr w.heap.size w.heap.size x ∧ O16 wr w.heap.size (w.heap.size + 1) y ∧ O16 wr w.heap.size (w.heap.size + 2) 0 ∧ (∃ D, Conv x y i k D ∧ OwnF wr w.heap.size 67 (some ⟨w.heap.size + 3, 0, none⟩) 31 31 (nvf D)) ∧ Below w.heap.size w wr)
        (fun kk _ => 16 - (intOf kk).toNat)
      case atStart => exact ⟨0, by omega, rfl, ox, oy, oz, ⟨D, HD.out, od⟩, hc⟩
      case round =>
        clear ox oy oz od hc HD
        obtain ⟨k, hk, rfl, ox, oy, oz, ⟨D, hD, od⟩, hc⟩ := hrel
        have HD := Lib.hid hD
        have hle := hD.le (i + k)
        unfold SQ at hle
        clear hD
        by_cases hlt2 : k < 16
        · have g2 : (k : Int) < 16 := by omega
          have c1 : wr.cell? ⟨w.heap.size, i, none⟩ = some (.int .i64 (d16 x i : Int)) := OwnF.cell ox hlt
          have c2 : wr.cell? ⟨w.heap.size + 1, k, none⟩ = some (.int .i64 (d16 y k : Int)) := OwnF.cell oy hlt2
          have c3 : wr.cell? ⟨w.heap.size + 3, i + k, none⟩ = some (.int .i64 (D (i + k) : Int)) := OwnF.cell od (by omega)
          have f3 := OwnF.free od (i + k)
          have hw : IntKind.i64.wrap ((i : Int) + (k : Int)) = (i : Int) + (k : Int) := by rw [IntKind.wrap_i64]; omega
          have h8 : (i : Int) + (k : Int) < 31 := by omega
          have h0 : 0 ≤ (i : Int) + (k : Int) := by omega
          have tn : ((i : Int) + (k : Int)).toNat = i + k := by omega
          have hp : d16 x i * d16 y k ≤ 65535 * 65535 := Nat.mul_le_mul (by have := d16_lt x i; omega) (by have := d16_lt y k; omega)
          have hm : IntKind.i64.wrap ((d16 x i : Int) * (d16 y k : Int)) = ((d16 x i * d16 y k : Nat) : Int) := by
            rw [← Int.natCast_mul, IntKind.wrap_i64]; omega
          have ha : IntKind.i64.wrap ((D (i + k) : Int) + ((d16 x i * d16 y k : Nat) : Int)) = ((D (i + k) + d16 x i * d16 y k : Nat) : Int) := by rw [IntKind.wrap_i64]; omega
          have hne1 : w.heap.size + 3 ≠ w.heap.size := by omega
          obtain ⟨m, hmm⟩ : ∃ m, m = d16 x i * d16 y k := ⟨_, rfl⟩
          rw [← hmm] at hm ha
          obtain ⟨s, hss⟩ : ∃ s, s = D (i + k) + m := ⟨_, rfl⟩
          rw [← hss] at ha
          have HM := Lib.hid hmm
          have HS := Lib.hid hss
          clear hp hle hmm hss
          go_wp2_with fail
          refine wp_region_still_tail 14 (by kernel_rfl) (by kernel_rfl) ?_
          simp only [List.take_succ_cons, List.take_zero, List.drop_succ_cons, List.drop_zero]
          repeat still_step
          refine wpStill_nil ?_
          change wpList _ _ _ _ _ wr.drew
          go_wp2_with fail
          refine ⟨⟨k + 1, by omega, by go_num, (ox.oth (by first | (simp; done) | (simp; omega)) _).drew, (oy.oth (by first | (simp; done) | (simp; omega)) _).drew, (oz.oth (by first | (simp; done) | (simp; omega)) _).drew, ⟨_, HD.out.step hlt hlt2, ?_⟩, (hc.setCell (by first | (simp; done) | (simp; omega)) _).drew⟩, by simp [intOf]; omega⟩
          refine (OwnF.congr (OwnF.set_ od (i + k) _) fun j _ => ?_).drew
          unfold nvf
          by_cases e : j = i + k
          · rw [if_pos e]; simp only [e, if_true]; rw [HS.out, HM.out]
          · rw [if_neg e]; simp only [e, if_false]
        · obtain rfl : k = 16 := by omega
          go_wp2_with fail
          go_roundw
          case rel => exact ⟨i + 1, by omega, by go_num, ox, oy, oz, ⟨D, HD.out.next HY.out, od⟩, hc⟩
          case measure => simp [intOf]; omega
    · obtain rfl : i = 16 := by omega
      obtain ⟨wq, ewq⟩ : ∃ wq : World, wq = wr := ⟨_, rfl⟩
      subst ewq
      obtain ⟨hval, hbb⟩ := HD.out.fin HX.out
      have hle : ∀ j, D j ≤ 256 * 4294836225 := HD.out.le
      have HV := Lib.hid hval
      have HB := Lib.hid hbb
      have HL := Lib.hid hle
      clear hval hbb hle HD
      have hne2 := Nat.ne_of_gt oz.lt
      have on := own_Z16 (w := wq) (B := w.heap.size) hc.size
      have hsz : w.heap.size + 3 < wq.heap.size := OwnF.lt od
      have hbz := (Below.refl wq.heap.size wq).alloc (Nat.le_refl _) Z16
      replace od := OwnF.keep od hbz
      replace oz := oz.keep hbz
      replace hc := hc.trans (hbz.mono hc.size)
      have hgo : (wq.alloc Z16).heap.size = wq.heap.size + 1 := by simp
      have HGO := Lib.hid hgo
      clear hbz ox oy hgo
      go_wp2_with fail
      simp only [Int.cast_ofNat_Int]
      obtain ⟨w0, e0⟩ : ∃ w0 : World, w0 = wq.alloc Z16 := ⟨_, rfl⟩
      rw [← e0] at on od oz hc ⊢
      clear e0
      have hno : wq.heap.size ≠ w.heap.size + 3 := by omega
      go_loopw [9] (fun ii wr => ∃ k : Nat, k ≤ 16 ∧ ii = .int .i64 k ∧ OwnF wr w.heap.size 26 (some ⟨wq.heap.size, 0, none⟩) 16 16 (fov D k) ∧ OwnF wr w.heap.size 67 (some ⟨w.heap.size + 3, 0, none⟩) 31 31 (nvf D) ∧ O16 wr w.heap.size (w.heap.size + 2) 0 ∧ Below w.heap.size w wr)
        (fun ii _ => 16 - (intOf ii).toNat)
      case atStart => exact ⟨0, by omega, rfl, on.congr (fun j _ => by unfold fov; rw [if_neg (by omega)]; rfl), od, oz, hc⟩
      case round =>
        clear on od oz hc
        obtain ⟨k, hk, rfl, on, od, oz, hc⟩ := hrel
        by_cases hlt : k < 16
        · have g1 : (k : Int) < 16 := by omega
          have c1 : wr.cell? ⟨w.heap.size + 3, k, none⟩ = some (.int .i64 (D k : Int)) := OwnF.cell od (by omega)
          have c2 := OwnF.cell on hlt
          have f2 := OwnF.free on k
          have on1 := OwnF.set_ on k (.int .i64 (D k : Int))
          have od1 := OwnF.other od (p := ⟨wq.heap.size, k, none⟩) hno (.int .i64 (D k : Int))
          have oz1 := oz.oth (p := ⟨wq.heap.size, k, none⟩) hne2 (.int .i64 (D k : Int))
          have hc1 := hc.setCell (p := ⟨wq.heap.size, k, none⟩) (by first | (simp; done) | (simp; omega)) (.int .i64 (D k : Int))
          have hw : IntKind.i64.wrap ((k : Int) + 16) = (k : Int) + 16 := by rw [IntKind.wrap_i64]; omega
          have b1 := HL.out k
          have b2 := HL.out (k + 16)
          by_cases hlt2 : k < 15
          · have g2 : (k : Int) + 16 < 31 := by omega
            have c3 := OwnF.cell on1 hlt
            rw [if_pos rfl] at c3
            have f3 := OwnF.free on1 k
            have c4 : (wr.setCell ⟨wq.heap.size, k, none⟩ (.int .i64 (D k : Int))).cell? ⟨w.heap.size + 3, k + 16, none⟩ = some (.int .i64 (D (k + 16) : Int)) := OwnF.cell od1 (by omega)
            have a1 : IntKind.i64.wrap (38 * (D (k + 16) : Int)) = 38 * (D (k + 16) : Int) := by rw [IntKind.wrap_i64]; omega
            obtain ⟨s, hs⟩ : ∃ s, s = fold D k := ⟨_, rfl⟩
            have a2 : IntKind.i64.wrap ((D k : Int) + 38 * (D (k + 16) : Int)) = (s : Int) := by rw [hs, fold_lt hlt2, IntKind.wrap_i64]; omega
            have HS := Lib.hid hs
            have g3 : 0 ≤ (k : Int) + 16 := by omega
            have g4 : ((k : Int) + 16).toNat = k + 16 := by omega
            clear hs b1 b2
            go_wp2_with fail
            obtain ⟨w1, e1⟩ : ∃ w1 : World, w1 = wr.setCell ⟨wq.heap.size, k, none⟩ (.int .i64 (D k : Int)) := ⟨_, rfl⟩
            rw [← e1] at on1 od1 oz1 hc1 c3 c4 f3 ⊢
            clear e1 c1 c2 f2 on od oz hc
            refine wp_region_still_tail 10 (by kernel_rfl) (by kernel_rfl) ?_
            simp only [List.take_succ_cons, List.take_zero, List.drop_succ_cons, List.drop_zero]
            repeat still_step
            refine wpStill_nil ?_
            change wpList _ _ _ _ _ w1.drew
            go_wp2_with fail
            go_roundw
            case rel =>
              refine ⟨k + 1, by omega, by go_num, ?_, (OwnF.other od1 (p := ⟨wq.heap.size, k, none⟩) hno _).drew, (oz1.oth (p := ⟨wq.heap.size, k, none⟩) hne2 _).drew, (hc1.setCell (by first | (simp; done) | (simp; omega)) _).drew⟩
              refine (OwnF.congr (OwnF.set_ on1 k _) fun j _ => ?_).drew
              by_cases e : j = k
              · rw [if_pos e]
                have := fov_set (D := D) (k := k) (v := (s : Int)) (by rw [HS.out]) j
                rwa [if_pos e] at this
              · rw [if_neg e, if_neg e]
                have := fov_set (D := D) (k := k) (v := (s : Int)) (by rw [HS.out]) j
                rwa [if_neg e] at this
            case measure => simp [intOf]; omega
          · obtain rfl : k = 15 := by omega
            clear b1 b2
            go_wp2_with fail
            go_roundw
            case rel => exact ⟨16, by omega, by go_num, OwnF.congr on1 fun j _ => fov_set (by rw [fold_15]) j, od1, oz1, hc1⟩
            case measure => simp [intOf]
        · obtain rfl : k = 16 := by omega
          have oo : OwnF wr w.heap.size 26 (some ⟨wq.heap.size, 0, none⟩) 16 16 (nvf (fold D)) := OwnF.congr on fun j hj => fov_in hj
          have kst := fun w => settled_any HB.out w
          rw [fold_val, HV.out, ← HR.out] at kst
          have KST := Lib.hid kst
          clear kst on od
          go_wp2_with ((with_reducible refine gl_load oo ?_ ?_); rfl)
          go_at_call 48
          refine (KST.out _).mono ?_
          rintro e v9 ⟨rfl, h0⟩
          replace oz := oz.keep h0
          replace hc := hc.trans (h0.mono hc.size)
          clear h0 oo
          have hop := Lib.hid (oz.put r)
          have hbz := oz.below r
          go_wp2_with (first | ((with_reducible refine fl_store oz r ?_ ?_ ?_); rfl; rfl))
          exact bodyPost_ret (fres Tryd.results27 _ hop.out rfl) rfl ⟨rfl, hc.trans hbz⟩
end Go.Proofs.YtifcjfeepgfmfaaDoor
