/-
  Layer 6's law ShaWrites, walked whole. Written by tools/gen_n35.py. By an AI agent.
-/
import Derived.Test.YtbikldocjmelcaaDoorN33
import Derived.Test.YtbikldocjmelcaaDoorLr
namespace Go.Proofs.YtbikldocjmelcaaDoor
open Go Go.RowKit
set_option maxRecDepth 20000
section
variable {g : Nat} {w w' w'' : World}
theorem Ex.new {b : Nat} (h : Ex g w w') (ho : Only b w' w'') (hb : w.heap.size ≤ b) : Ex g w w'' :=
  ⟨ho.os.trans h.os, ho.tape.trans h.tape, ho.output.trans h.output, Nat.le_trans h.size (Nat.le_of_eq ho.size.symm), fun k hk hne => (ho.block k (by omega)).trans (h.block k hk hne)⟩
theorem Own.ex {B c : Nat} {e : TypeId} {A : Option Addr} {bs : List UInt8} (h : Own w B e A c bs) (hx : Ex g w w') (hg : g < B) : Own w' B e A c bs := by
  obtain ⟨hl, h2⟩ := h
  refine ⟨hl, ?_⟩
  rcases h2 with h | ⟨g1, cap, cur, hv, hB, hb, r⟩
  · exact .inl h
  · have hlt : g1 < w.heap.size := (Array.getElem?_eq_some_iff.1 hb).1
    exact .inr ⟨g1, cap, cur, hv, hB, (hx.block g1 hlt (by omega)).trans hb, r⟩
theorem Hs.keepAt {B : Nat} {bs : List UInt8} (h : Hs w B g bs) (hb : Below (g + 1) w w') : Hs w' B g bs := by
  obtain ⟨V, rb, o, r⟩ := h
  exact ⟨V, rb, OwnF.keepAt o hb, r⟩
theorem own_of {B c n : Nat} {e : TypeId} {A : Option Addr} {S : List UInt8} (h : OwnF w B e A c n (bvf S)) (hl : S.length = n) : Own w B e A c S := by
  unfold OwnF at h
  unfold Own
  have : (List.range n).map (bvf S) = S.map bv := by
    refine List.ext_getElem (by simp [hl]) fun i h1 h2 => ?_
    have hi : i < S.length := by simpa using h2
    simp only [List.getElem_map, List.getElem_range, bvf, bv]
    rw [nth_get hi]
  rw [hl, ← this]
  exact h
end
theorem inc_num (x : Nat) : ∃ z : UInt8, IntKind.u8.wrap ((x : Int) + 1) = (z.toNat : Int) :=
  ⟨UInt8.ofNat ((x + 1) % 256), by rw [IntKind.wrap_u8, UInt8.toNat_ofNat']; omega⟩
section
attribute [local irreducible] sumN bvf
set_option maxHeartbeats 6400000 in
theorem writes_walk {A0 : Option Addr} {c0 : Nat} {L : List (List UInt8)} {w0 : World} (hr : Rds w0 w0.heap.size A0 c0 L) (w : World) (hw : w = w0) (hG : Glb w) :
    Calls Tryd.prog 5 #[.slice A0 L.length c0] w fun e w' => e = .returned (.bool true) ∧ Below w.heap.size w w' := by
  subst hw
  obtain ⟨i0, hi, hz0, hz1, hz2⟩ := info_parts infoB6
  have KA0 := Lib.hid (awakeC w hG)
  have h4 := Lib.hid hG.four
  have HG := Lib.hid (fun wz (hz : Below w.heap.size w wz) => hG.next hz)
  clear hG
  by_cases hn : L.length ≤ 20
  · have g1 : ¬ (20 : Int) < (L.length : Int) := by omega
    go_enter Tryd.func5, Tryd.ntmps5
    go_wp2_with fail
    go_loop [19] (fun i => ∃ j : Nat, j ≤ L.length ∧ i = .int .i64 (j : Int) ∧ ∀ k, k < j → (row L k).length ≤ 400)
      (fun i => L.length - (intOf i).toNat)
    case atStart => exact ⟨0, by omega, rfl, fun k hk => absurd hk (by omega)⟩
    case round =>
      obtain ⟨j, hj, rfl, hsm⟩ := hrel
      by_cases hlt : j < L.length
      · have g2 : (j : Int) < (L.length : Int) := by omega
        have g3 : (0 : Int) ≤ (j : Int) := by omega
        obtain ⟨b0, o0, rfl, hb0, Ak, ck, cc, hrk⟩ := hr.at_ hlt
        by_cases hl : (row L j).length ≤ 400
        · have g4 : ¬ (400 : Int) < ((row L j).length : Int) := by omega
          go_wp2_with fail
          go_round
          case rel => exact ⟨j + 1, by omega, by go_num, fun k hk => by
            rcases Nat.lt_or_ge k j with h | h
            · exact hsm k h
            · rw [show k = j by omega]; exact hl⟩
          case measure => simp [intOf]; omega
        · have g4 : (400 : Int) < ((row L j).length : Int) := by omega
          go_wp2_with fail
          go_at_call 9
          refine KA0.out.mono ?_
          rintro e v1 ⟨rfl, hc⟩
          go_wp2_with fail
          go_ret
          exact ⟨rfl, hc⟩
      · obtain rfl : j = L.length := by omega
        have g2 : ¬ (L.length : Int) < (L.length : Int) := by omega
        have HSM := Lib.hid hsm
        clear hsm KA0
        go_wp2_with fail
        go_at_call 15
        refine (hnew _).mono ?_
        rintro e v1 ⟨g, rfl, hs, hc⟩
        have hgB := Lib.hid hs.ge
        have hgl := Lib.hid hs.lt
        go_wp2_with fail
        go_loopw [6, 31] (fun v i wr => ∃ j : Nat, j ≤ L.length ∧ i = .int .i64 (j : Int) ∧ (∃ A c, v = .slice A (joinK L j).length c ∧ Own wr (g + 1) 5 A c (joinK L j)) ∧ (joinK L j).length ≤ j * 400 ∧ Hs wr w.heap.size g (joinK L j) ∧ Below w.heap.size w wr)
          (fun _ i _ => L.length - (intOf i).toNat)
        case atStart => exact ⟨0, by omega, rfl, ⟨none, 0, by rw [joinK_zero]; rfl, by rw [joinK_zero]; exact World.ownsRow_nil _ _ _ _⟩, by rw [joinK_zero]; simp, by rw [joinK_zero]; exact hs, hc⟩
        case round =>
          clear hs hc
          obtain ⟨j, hj, rfl, ⟨A, c, rfl, oa⟩, hjl, hs, hc⟩ := hrel
          obtain ⟨wo, ewo⟩ : ∃ v, v = wr := ⟨_, rfl⟩
          subst ewo
          by_cases hlt : j < L.length
          · have g3 : (j : Int) < (L.length : Int) := by omega
            have g3' : (0 : Int) ≤ (j : Int) := by omega
            obtain ⟨b0, o0, rfl, hb0, Ak, ck, cc0, hrk0⟩ := hr.at_ hlt
            have cc := (hc.cell (p := ⟨b0, o0 + j, none⟩) hb0).trans cc0
            have hrk := hrk0.keep hc
            have hbl := HSM.out j hlt
            have hjs := joinK_succ hlt
            obtain ⟨bj, hbj⟩ : ∃ x, x = row L j := ⟨_, rfl⟩
            rw [← hbj] at cc hrk hbl hjs
            have HJS := Lib.hid hjs
            have HBJ := Lib.hid hbj
            clear hjs hbj cc0 hrk0
            obtain ⟨pj, hpj⟩ : ∃ x, x = joinK L j := ⟨_, rfl⟩
            rw [← hpj] at oa hjl hs HJS ⊢
            clear hpj
            have hpl : pj.length ≤ 8000 := by omega
            have KX := Lib.hid (own6_any wo hrk (hc.size) (by omega))
            go_wp2_with fail
            go_at_call 10
            refine KX.out.mono ?_
            rintro e v2 ⟨A1, c1, rfl, ox, hb⟩
            have hs2 := hs.keep hb
            have hc2 := hc.trans (hb.mono hc.size)
            have hgw := Lib.hid (hs.lt)
            have KW := Lib.hid (hwrite (A := A1) (c := c1) (bs := pj) (b := bj) (by omega) h4.out v2 (HG.out v2 hc2) hs2 ox.rd (ox.off hgw.out))
            have hE2 : Ex g wo v2 := Ex.of_below hb
            clear KX hs hb
            go_wp2_with fail
            go_at_call 16
            refine KW.out.mono ?_
            rintro e v3 ⟨rfl, hs3, hx3⟩
            have ox3 := ox.ex hx3 hgw.out
            have hE3 := hE2.trans hx3
            clear KW hs2 hx3 ox hE2 hc2
            go_wp2_with fail
            go_loopw [42] (fun i wr => ∃ n : Nat, n ≤ bj.length ∧ i = .int .i64 (n : Int) ∧ (∃ y, y.length = bj.length ∧ Own wr wo.heap.size 5 A1 c1 y) ∧ Hs wr w.heap.size g (pj ++ bj) ∧ Ex g wo wr)
              (fun i _ => bj.length - (intOf i).toNat)
            case atStart => exact ⟨0, by omega, rfl, ⟨bj, rfl, ox3⟩, hs3, hE3⟩
            case round =>
              clear ox3 hs3 hE3
              obtain ⟨n, hn', rfl, ⟨y, hy, ox⟩, hs4, hE4⟩ := hrel
              by_cases hln : n < bj.length
              · have g5 : (n : Int) < (bj.length : Int) := by omega
                have g6 : (0 : Int) ≤ (n : Int) := by omega
                obtain ⟨gx, rfl⟩ := ox.ptr (by omega)
                have hgx := ox.ge
                have cx := ox.cell (k := n) (by omega)
                have fx := ox.free n
                obtain ⟨z, hz⟩ := inc_num (nth y n)
                generalize nth y n = yn at *
                have HN := Lib.hid (⟨y.set n z, by rw [List.length_set]; exact hy, ox.set_ n z⟩ : ∃ y', y'.length = bj.length ∧ Own (wr.setCell ⟨gx, n, none⟩ (.int .u8 (z.toNat : Int))) wo.heap.size 5 (some ⟨gx, 0, none⟩) c1 y')
                have HH := Lib.hid (hs4.ex (Ex.of_only (Only.setCell wr ⟨gx, n, none⟩ (.int .u8 (z.toNat : Int)))) (show g ≠ gx by have := hgw.out; omega))
                have HE := Lib.hid (hE4.new (Only.setCell wr ⟨gx, n, none⟩ (.int .u8 (z.toNat : Int))) hgx)
                clear ox hs4 hE4 hy
                go_wp2_with fail
                exact ⟨⟨n + 1, by omega, by go_num, HN.out, HH.out, HE.out⟩, by simp [intOf]; omega⟩
              · obtain rfl : n = bj.length := by omega
                have g5 : ¬ (bj.length : Int) < (bj.length : Int) := by omega
                have hgb := hgB.out
                have hc4 := hc.trans (hE4.below hgb hc.size)
                have oa4 := oa.ex hE4 (Nat.lt_succ_self g)
                have hrk4 := hrk.keep (hE4.below hgb hc.size)
                have hg4 : g + 1 ≤ wr.heap.size := hs4.lt
                clear ox hE4 hy
                go_wp2_with (at_builtin; refine wpList_app _ rfl (.tmp 52) (.tmp 53) _ rfl (g + 1) 5 i0 _ Tryd.underlying22 hi hz0 hz1 hz2 rfl rfl oa4 rfl hrk4 (by omega) hg4 ?_; intro A2 c2 v5 oa5 hb5)
                have hs5 := hs4.keepAt hb5
                have hc5 := hc4.trans (hb5.mono (by omega))
                have hlq : pj.length + bj.length = (pj ++ bj).length := List.length_append.symm
                have hal : (pj ++ bj).length ≤ (j + 1) * 400 := by rw [List.length_append, Nat.succ_mul]; omega
                obtain ⟨al, hae⟩ : ∃ x, x = pj ++ bj := ⟨_, rfl⟩
                rw [← hae] at hs5 oa5 hlq HJS hal
                rw [hlq]
                have hal2 : al.length ≤ 100000 := by omega
                have KS := Lib.hid (hsum (by omega) v5 (HG.out v5 hc5) hs5)
                clear hb5 hs4 oa4 hrk4 hae hlq hc4 cc
                go_at_call 17
                refine KS.out.mono ?_
                rintro e v6 ⟨gs, rfl, os6, hb6⟩
                obtain ⟨S, hS⟩ : ∃ S, S = sumN smallS al := ⟨_, rfl⟩
                have hSl : S.length = 32 := by rw [hS]; exact sumN_len smallS al
                rw [← hS] at os6
                have ow6 := own_of os6 hSl
                have hsR := ow6.rd
                have haR := (oa5.keep hb6).rd
                have KR := Lib.hid (fun A c wz (h : Rd wz wz.heap.size A c al) => r256 al A c wz (by omega) h)
                rw [← hS] at KR
                clear KS hS os6
                go_upto_region 23 with fail
                refine wp_region_inv 5 [57, 58, 59, 60, 61] [.byt S, .val (.string ⟨S.toArray⟩), .byt al, .byt S, .val (.string ⟨S.toArray⟩)] (fun wz => Below v6.heap.size v6 wz) (by kernel_rfl) (by kernel_rfl) (fun wz wz' hz hb => hz.trans (hb.mono hz.size)) ((Below.refl _ _).drew) (fun u => by simp only [puts, List.foldl_cons, List.foldl_nil]; go_simp; exact rfl) ?_ ?_
                · simp only [List.take_succ_cons, List.take_zero]
                  refine Obs.cons (fun u w hS hd => ?_) ?_
                  · exact Gv.run (.slice (some ⟨gs, 0, none⟩) 32 32) rfl (by go_simp) (⟨_, _, by rw [hSl], (hsR.keep hS).mono hS.size⟩)
                  refine Obs.cons (fun u w hS hd => ?_) ?_
                  · obtain ⟨A57, c57, d57, g57⟩ : (Know.byt S).ok (u 57) w := dep hd 0 rfl
                    rw [hSl] at d57
                    rw [d57]
                    exact Gv.run (.string ⟨S.toArray⟩) rfl (run_conv rfl rfl (str6 w hSl g57)) rfl
                  refine Obs.cons (fun u w hS hd => ?_) ?_
                  · exact Gv.run (.slice A2 al.length c2) rfl (by go_simp) (⟨_, _, rfl, (haR.keep hS).mono hS.size⟩)
                  refine Obs.cons (fun u w hS hd => ?_) ?_
                  · obtain ⟨A59, c59, d59, g59⟩ : (Know.byt al).ok (u 59) w := dep hd 2 rfl
                    rw [d59]
                    refine Gv.call 12 #[.slice A59 al.length c59] rfl (by go_simp) ((KR.out _ _ w g59).mono ?_)
                    rintro e w' ⟨A, c, rfl, R, hb⟩
                    exact ⟨_, rfl, ⟨A, c, by rw [hSl], R⟩, hb⟩
                  refine Obs.cons (fun u w hS hd => ?_) ?_
                  · obtain ⟨A60, c60, d60, g60⟩ : (Know.byt S).ok (u 60) w := dep hd 3 rfl
                    rw [hSl] at d60
                    rw [d60]
                    exact Gv.run (.string ⟨S.toArray⟩) rfl (run_conv rfl rfl (str6 w hSl g60)) rfl
                  exact Obs.nil
                intro u wz hS hd
                have d58 : u 58 = .string ⟨S.toArray⟩ := hd 1 (by decide)
                have d61 : u 61 = .string ⟨S.toArray⟩ := hd 4 (by decide)
                rw [d58, d61]
                clear hd d58 d61 KR hsR haR
                have ow7 := ow6.keep hS
                have hb7 := hb6.trans (hS.mono hb6.size)
                clear hS ow6 hb6
                simp only [List.drop_succ_cons, List.drop_zero]
                go_wp2_with fail
                go_loopw [65] (fun i wr => ∃ n : Nat, n ≤ 32 ∧ i = .int .i64 (n : Int) ∧ (∃ y, y.length = 32 ∧ Own wr v5.heap.size 5 (some ⟨gs, 0, none⟩) 32 y) ∧ Below v5.heap.size v5 wr)
                  (fun i _ => 32 - (intOf i).toNat)
                case atStart => exact ⟨0, by omega, rfl, ⟨S, hSl, ow7⟩, hb7⟩
                case round =>
                  clear ow7 hb7
                  obtain ⟨n, hn2, rfl, ⟨y, hy, os⟩, hb8⟩ := hrel
                  by_cases hl2 : n < 32
                  · have g7 : (n : Int) < 32 := by omega
                    have g8 : (0 : Int) ≤ (n : Int) := by omega
                    have hgx := os.ge
                    have cx := os.cell (k := n) (by omega)
                    have fx := os.free n
                    obtain ⟨z, hz⟩ := inc_num (nth y n)
                    generalize nth y n = yn at *
                    have HN := Lib.hid (⟨y.set n z, by rw [List.length_set]; exact hy, os.set_ n z⟩ : ∃ y', y'.length = 32 ∧ Own (wr.setCell ⟨gs, n, none⟩ (.int .u8 (z.toNat : Int))) v5.heap.size 5 (some ⟨gs, 0, none⟩) 32 y')
                    have HE := Lib.hid (hb8.trans ((Only.setCell wr ⟨gs, n, none⟩ (.int .u8 (z.toNat : Int))).below hgx))
                    clear os hb8 hy
                    go_wp2_with fail
                    exact ⟨⟨n + 1, by omega, by go_num, HN.out, HE.out⟩, by simp [intOf]; omega⟩
                  · obtain rfl : n = 32 := by omega
                    simp only [Int.cast_ofNat_Int]
                    have HF1 := Lib.hid (oa5.keep hb8)
                    have HF2 := Lib.hid (hs5.keep hb8)
                    have HF3 := Lib.hid (hc5.trans (hb8.mono hc5.size))
                    clear os hb8 hy oa5 hs5 hc5
                    go_wp2_with fail
                    go_roundw
                    case rel => exact ⟨j + 1, by omega, by go_num, ⟨A2, c2, by rw [HJS.out], by rw [HJS.out]; exact HF1.out⟩, by rw [HJS.out]; exact hal, by rw [HJS.out]; exact HF2.out, HF3.out⟩
                    case measure => simp [intOf]; omega
          · obtain rfl : j = L.length := by omega
            have g3 : ¬ (L.length : Int) < (L.length : Int) := by omega
            obtain ⟨al, hae⟩ : ∃ x, x = joinK L L.length := ⟨_, rfl⟩
            rw [← hae] at oa hs hjl ⊢
            have hal2 : al.length ≤ 8000 := by omega
            obtain ⟨v9, e9⟩ : ∃ v, v = wo := ⟨_, rfl⟩
            rw [← e9] at oa hs hc ⊢
            clear hae e9 hjl
            have haR := oa.rd
            obtain ⟨S, hS⟩ : ∃ S, S = sumN smallS al := ⟨_, rfl⟩
            have hSl : S.length = 32 := by rw [hS]; exact sumN_len smallS al
            have KS := Lib.hid (fun wz (hz : Below v9.heap.size v9 wz) => hsum_rd (by omega) wz (HG.out wz (hc.trans (hz.mono hc.size))) (hs.keep hz))
            have KG := Lib.hid (fun A c wz (hz : Below v9.heap.size v9 wz) (h : Rd wz wz.heap.size A c al) => c256 al A c wz (by omega) (HG.out wz (hc.trans (hz.mono hc.size))) h)
            rw [← hS] at KS KG
            have KA := Lib.hid (fun wz (hz : Below v9.heap.size v9 wz) => awakeC wz (HG.out wz (hc.trans (hz.mono hc.size))))
            clear hS hs oa
            go_upto_region 31 with fail
            refine wp_region_inv 10 [76, 77, 78, 79, 80, 81, 82, 83, 84, 85] [.val (.pointer (some ⟨g, 0, none⟩)), .byt S, .val (.string ⟨S.toArray⟩), .byt al, .byt S, .val (.string ⟨S.toArray⟩), .val (.bool true), .val (.bool true), .val (.bool true), .val (.bool true)] (fun wz => Below v9.heap.size v9 wz) (by kernel_rfl) (by kernel_rfl) (fun wz wz' hz hb => hz.trans (hb.mono hz.size)) ((Below.refl _ _).drew) (fun u => by simp only [puts, List.foldl_cons, List.foldl_nil]; go_simp; exact rfl) ?_ ?_
            · simp only [List.take_succ_cons, List.take_zero]
              refine Obs.cons (fun u w hS hd => ?_) ?_
              · exact Gv.run (.pointer (some ⟨g, 0, none⟩)) rfl (by go_simp) rfl
              refine Obs.cons (fun u w hS hd => ?_) ?_
              · have d76 : u 76 = .pointer (some ⟨g, 0, none⟩) := dep hd 0 rfl
                rw [d76]
                refine Gv.call 17 #[.pointer (some ⟨g, 0, none⟩)] rfl (by go_simp) ((KS.out w hS).mono ?_)
                rintro e w' ⟨A, c, rfl, R, hb⟩
                exact ⟨_, rfl, ⟨A, c, by rw [hSl], R⟩, hb⟩
              refine Obs.cons (fun u w hS hd => ?_) ?_
              · obtain ⟨A77, c77, d77, g77⟩ : (Know.byt S).ok (u 77) w := dep hd 1 rfl
                rw [hSl] at d77
                rw [d77]
                exact Gv.run (.string ⟨S.toArray⟩) rfl (run_conv rfl rfl (str6 w hSl g77)) rfl
              refine Obs.cons (fun u w hS hd => ?_) ?_
              · exact Gv.run (.slice A al.length c) rfl (by go_simp) (⟨_, _, rfl, (haR.keep hS).mono hS.size⟩)
              refine Obs.cons (fun u w hS hd => ?_) ?_
              · obtain ⟨A79, c79, d79, g79⟩ : (Know.byt al).ok (u 79) w := dep hd 3 rfl
                rw [d79]
                refine Gv.call 11 #[.slice A79 al.length c79] rfl (by go_simp) ((KG.out _ _ w hS g79).mono ?_)
                rintro e w' ⟨A, c, rfl, R, hb⟩
                exact ⟨_, rfl, ⟨A, c, by rw [hSl], R⟩, hb⟩
              refine Obs.cons (fun u w hS hd => ?_) ?_
              · obtain ⟨A80, c80, d80, g80⟩ : (Know.byt S).ok (u 80) w := dep hd 4 rfl
                rw [hSl] at d80
                rw [d80]
                exact Gv.run (.string ⟨S.toArray⟩) rfl (run_conv rfl rfl (str6 w hSl g80)) rfl
              refine Obs.cons (fun u w hS hd => ?_) ?_
              · have d78 : u 78 = .string ⟨S.toArray⟩ := dep hd 2 rfl
                rw [d78]
                have d81 : u 81 = .string ⟨S.toArray⟩ := dep hd 5 rfl
                rw [d81]
                exact Gv.run (.bool true) rfl (by go_simp) rfl
              refine Obs.cons (fun u w hS hd => ?_) ?_
              · have d82 : u 82 = .bool true := dep hd 6 rfl
                rw [d82]
                exact Gv.run (.bool true) rfl (by go_simp) rfl
              refine Obs.cons (fun u w hS hd => ?_) ?_
              · have d83 : u 83 = .bool true := dep hd 7 rfl
                rw [d83]
                refine Gv.call 9 #[] rfl (by go_simp) ((KA.out w hS).mono ?_)
                rintro e w' ⟨rfl, hb⟩
                exact ⟨_, rfl, rfl, hb⟩
              refine Obs.cons (fun u w hS hd => ?_) ?_
              · have d83 : u 83 = .bool true := dep hd 7 rfl
                rw [d83]
                have d84 : u 84 = .bool true := dep hd 8 rfl
                rw [d84]
                exact Gv.run (.bool true) rfl (by go_simp) rfl
              exact Obs.nil
            intro u wz hS hd
            have d85 : u 85 = .bool true := hd 9 (by decide)
            rw [d85]
            simp only [List.drop_succ_cons, List.drop_zero]
            go_wp2_with fail
            go_ret
            exact ⟨rfl, hc.trans (hS.mono hc.size)⟩
  · have g1 : (20 : Int) < (L.length : Int) := by omega
    go_enter Tryd.func5, Tryd.ntmps5
    go_wp2_with fail
    go_at_call 9
    refine KA0.out.mono ?_
    rintro e v1 ⟨rfl, hc⟩
    go_wp2_with fail
    go_ret
    exact ⟨rfl, hc⟩
end
end Go.Proofs.YtbikldocjmelcaaDoor
