/-
  The document's Expand (layer 7). Written by tools/gen_h6.py. By an AI agent.
-/
import Derived.Test.YtbofehdihflkiaaDoorH5
import Derived.Test.YtbofehdihflkiaaDoorSh
namespace Go.Proofs.YtbofehdihflkiaaDoor
open Go Go.RowKit
set_option maxRecDepth 20000
section
attribute [local irreducible] Kd.cells kf sumN xk macN setKw expT expO
set_option maxHeartbeats 6400000 in
theorem refExpand_any {A A' : Option Addr} {c c' n : Nat} {key info : List UInt8} (hn : n ≤ 8160) (hkl : key.length ≤ 1000000) (hil : info.length ≤ 100000) (w : World) (hr : Rd w w.heap.size A c key) (hs : Rd w w.heap.size A' c' info) :
    Calls Tryd.prog 16 #[.slice A key.length c, .slice A' info.length c', .int .i64 (n : Int)] w fun e w' => ∃ A2 c2, e = .returned (.tuple #[.slice A2 n c2, .int .i64 0]) ∧ Rd w' w'.heap.size A2 c2 (expN key info n) ∧ Below w.heap.size w w' := by
  have g1 : ¬ (n : Int) < 0 := by omega
  have g2 : ¬ (8160 : Int) < (n : Int) := by omega
  go_enter Tryd.func16, Tryd.ntmps16
  go_wp2_with fail
  go_at_call 23
  refine (small_any _).mono ?_
  rintro e v1 ⟨K, hK, rfl, hk, hf, hc⟩
  have oz := OwnF.lit (w := v1) (B := v1.heap.size) 46 (Nat.le_refl _) #[.int .i64 0, .int .i64 0, .int .i64 0, .int .i64 0, .int .i64 0, .int .i64 0, .int .i64 0, .int .i64 0, .int .i64 0, .int .i64 0, .int .i64 0, .int .i64 0, .int .i64 0, .int .i64 0, .slice none 0 0, .slice none 0 0] 16 (fun k => ([.int .i64 0, .int .i64 0, .int .i64 0, .int .i64 0, .int .i64 0, .int .i64 0, .int .i64 0, .int .i64 0, .int .i64 0, .int .i64 0, .int .i64 0, .int .i64 0, .int .i64 0, .int .i64 0, .slice none 0 0, .slice none 0 0] : List Value).getD k undef) (by decide) rfl
  generalize hz : (fun k => ([.int .i64 0, .int .i64 0, .int .i64 0, .int .i64 0, .int .i64 0, .int .i64 0, .int .i64 0, .int .i64 0, .int .i64 0, .int .i64 0, .int .i64 0, .int .i64 0, .int .i64 0, .int .i64 0, .slice none 0 0, .slice none 0 0] : List Value).getD k undef) = fz at oz
  clear hz
  have ok2 := k_put oz K
  have hb2 := ((Below.refl v1.heap.size v1).alloc (Nat.le_refl _) (.cells #[.int .i64 0, .int .i64 0, .int .i64 0, .int .i64 0, .int .i64 0, .int .i64 0, .int .i64 0, .int .i64 0, .int .i64 0, .int .i64 0, .int .i64 0, .int .i64 0, .int .i64 0, .int .i64 0, .slice none 0 0, .slice none 0 0] 46)).trans (setKw_below (v1.alloc (.cells #[.int .i64 0, .int .i64 0, .int .i64 0, .int .i64 0, .int .i64 0, .int .i64 0, .int .i64 0, .int .i64 0, .int .i64 0, .int .i64 0, .int .i64 0, .int .i64 0, .int .i64 0, .int .i64 0, .slice none 0 0, .slice none 0 0] 46)) v1.heap.size K)
  have OK2 := Lib.hid ok2
  have HB2 := Lib.hid hb2
  clear ok2 hb2
  go_upto_region 4 with ((with_reducible refine k_store oz K ?_ ?_ ?_); rfl; rfl)
  obtain ⟨v2, e2⟩ : ∃ v, v = setKw (v1.alloc (.cells #[.int .i64 0, .int .i64 0, .int .i64 0, .int .i64 0, .int .i64 0, .int .i64 0, .int .i64 0, .int .i64 0, .int .i64 0, .int .i64 0, .int .i64 0, .int .i64 0, .int .i64 0, .int .i64 0, .slice none 0 0, .slice none 0 0] 46)) v1.heap.size K := ⟨_, rfl⟩
  have ok2 := OK2.out
  have hb2 := HB2.out
  rw [← e2] at ok2 hb2 ⊢
  obtain ⟨g8, eg⟩ : ∃ g, g = v1.heap.size := ⟨_, rfl⟩
  replace ok2 : OK v2 v1.heap.size g8 K := by rw [eg]; exact ok2
  rw [show (Value.pointer (some ⟨v1.heap.size, 0, none⟩)) = .pointer (some ⟨g8, 0, none⟩) by rw [eg]]
  clear e2 eg OK2 HB2 oz
  have hk2 := hk.next hb2
  have hf2 := hf.next hb2
  replace hc := hc.trans (hb2.mono hc.size)
  have hr2 := (hr.keep hc).mono hc.size
  have hs2 := (hs.keep hc).mono hc.size
  clear hk hf hr hs hb2
  go_wp2_with fail
  go_loopw [9, 10, 11] (fun x y z wr => ∃ j : Nat, j ≤ 255 ∧ z = .int .i64 ((j + 1 : Nat) : Int) ∧ (∃ Ao co Al cl, x = .slice Ao (expO key info j).length co ∧ y = .slice Al (expT key info j).length cl ∧ Rd wr wr.heap.size Ao co (expO key info j) ∧ Rd wr wr.heap.size Al cl (expT key info j)) ∧ (j = 0 ∨ 32 * (j - 1) < n) ∧ Below v2.heap.size v2 wr)
    (fun _ _ z _ => 257 - (intOf z).toNat)
  case atStart => exact ⟨0, by omega, rfl, ⟨none, 0, none, 0, by rw [expO_zero]; rfl, by rw [expT_zero]; rfl, by rw [expO_zero]; exact ⟨Nat.le_refl _, fun _ => ⟨rfl, rfl⟩, fun h => absurd rfl h⟩, by rw [expT_zero]; exact ⟨Nat.le_refl _, fun _ => ⟨rfl, rfl⟩, fun h => absurd rfl h⟩⟩, .inl rfl, Below.refl _ _⟩
  case round =>
    obtain ⟨j, hj, rfl, ⟨Ao, co, Al, cl, rfl, rfl, ro, rl⟩, hjn, hb⟩ := hrel
    have hlo := expO_len key info j
    have HLO := Lib.hid hlo
    by_cases hlt : 32 * j < n
    · have g3 : ((expO key info j).length : Int) < (n : Int) := by omega
      have okr := ok2.keep hb
      have hll := expT_le key info j
      have hTs := expT_succ key info j
      have hOs := expO_succ key info j
      obtain ⟨ib, hib⟩ : ∃ b, b = UInt8.ofNat (j + 1) := ⟨_, rfl⟩
      rw [← hib] at hTs
      obtain ⟨i1, hi1⟩ : ∃ x, x = j + 1 := ⟨_, rfl⟩
      rw [← hi1] at hTs hOs ⊢
      have CV := Lib.hid (show IntKind.u8.wrap (i1 : Int) = (ib.toNat : Int) by rw [hib, UInt8.toNat_ofNat', IntKind.wrap_u8]; omega)
      have HTS := Lib.hid hTs
      have HOS := Lib.hid hOs
      have HI1 := Lib.hid hi1
      have hlT := expT_len key info j
      rw [← hi1] at hlT
      have HLT := Lib.hid hlT
      clear hib hTs hOs hi1 hlo hlT
      generalize hlast : expT key info j = last at *
      generalize hout : expO key info j = out at *
      obtain ⟨vr, evr⟩ : ∃ v, v = wr := ⟨_, rfl⟩
      rw [← evr] at okr ro rl hb ⊢
      clear evr hlast hout
      have hs3 := (hs2.keep hb).mono hb.size
      have hr3 := (hr2.keep hb).mono hb.size
      have hli : (last ++ info).length + [ib].length ≤ 140737488355328 := by rw [List.length_append]; simp; omega
      have hlb : (last ++ info ++ [ib]).length ≤ 900000 := by rw [List.length_append, List.length_append]; simp; omega
      have HLN := Lib.hid hli
      have KJ := Lib.hid (fun w (hS : Below vr.heap.size vr w) => join_any (xs := last) (ys := info) (A := Al) (c := cl) (A' := A') (c' := c') (B := w.heap.size) (by omega) w ((rl.keep hS).mono hS.size) ((hs3.keep hS).mono hS.size) (Nat.le_refl _))
      have KM := Lib.hid (fun A3 c3 w (hS : Below vr.heap.size vr w) h => mac_any (A := A) (c := c) (A' := A3) (c' := c3) (key := key) (b := last ++ info ++ [ib]) hK hkl hlb w ((hk2.next hb).next hS) ((hf2.next hb).next hS) ((hr3.keep hS).mono hS.size) h)
      clear hli hlb
      go_upto_region 8 with fail
      refine wp_region_mut 10 8 [.late, .late, .pre, .pre, .pre, .pre, .pre, .pre, .pre, .post] [25, 26, 27, 28, 29, 30, 31, 32, 33, 34] (DX K A Al A' key.length c cl c' vr.heap.size i1 last info key ib) (fun _ wz => Below vr.heap.size vr wz) (by kernel_rfl) (by kernel_rfl) (fun _ wz wz' hz hb => hz.trans (hb.mono hz.size)) DX_keep ((Below.refl _ _).drew) (fun u => by simp only [puts, List.foldl_cons, List.foldl_nil]; go_simp; exact rfl) ?_ ?_
      · simp only [List.take_succ_cons, List.take_zero]
        refine ObsM.cons (by decide) ?_ ?_
        · intro b hb u w hS hd
          exact GvM.run (kv K) rfl (run_kload rfl rfl (okr.keep hS)) rfl
        refine ObsM.cons (by decide) ?_ ?_
        · intro b hb u w hS hd
          exact GvM.run (.slice A key.length c) rfl (by go_simp) rfl
        refine ObsM.cons (by decide) ?_ ?_
        · intro b hb u w hS hd
          exact GvM.run (.slice Al last.length cl) rfl (by go_simp) rfl
        refine ObsM.cons (by decide) ?_ ?_
        · intro b hb u w hS hd
          exact GvM.run (.slice A' info.length c') rfl (by go_simp) rfl
        refine ObsM.cons (by decide) ?_ ?_
        · intro b hb u w hS hd
          have d27 : u 27 = .slice Al last.length cl := depM hd 2 rfl
          have d28 : u 28 = .slice A' info.length c' := depM hd 3 rfl
          rw [d27, d28]
          refine GvM.call 24 #[.slice Al last.length cl, .slice A' info.length c'] rfl (by go_simp) ((KJ.out w hS).mono ?_)
          rintro e w' ⟨A2, c2, rfl, o, hb2⟩
          exact ⟨_, rfl, .inr ⟨A2, c2, rfl, o.mono hS.size⟩, hb2⟩
        refine ObsM.cons (by decide) ?_ ?_
        · intro b hb u w hS hd
          exact GvM.run (.int .i64 (i1 : Int)) rfl (by go_simp) rfl
        refine ObsM.cons (by decide) ?_ ?_
        · intro b hb u w hS hd
          have d30 : u 30 = .int .i64 (i1 : Int) := depM hd 5 rfl
          rw [d30]
          have hq := CV.out
          exact GvM.run (.int .u8 (ib.toNat : Int)) rfl (by go_simp) rfl
        refine ObsM.cons (by decide) ?_ ?_
        · intro b hb u w hS hd
          have d31 : u 31 = .int .u8 (ib.toNat : Int) := depM hd 6 rfl
          rw [d31]
          refine GvM.make (.slice (some ⟨w.heap.size, 0, none⟩) 1 1) (w.alloc (.cells #[.int .u8 (ib.toNat : Int)] 5)) rfl (by go_simp) (.inr ⟨_, rfl, ?_⟩) ((Below.refl _ w).alloc (Nat.le_refl _) _)
          exact (Own.lit (w := w) 5 (Nat.le_refl _) #[.int .u8 (ib.toNat : Int)] [ib] (by simp [maxLen]) rfl).rd
        refine ObsM.mut ?_ ?_
        · intro u w hS hd
          have d29 : DX K A Al A' key.length c cl c' vr.heap.size i1 last info key ib 4 false (u 29) w := depM hd 4 rfl
          have d32 : DX K A Al A' key.length c cl c' vr.heap.size i1 last info key ib 7 false (u 32) w := depM hd 7 rfl
          obtain ⟨A3, c3, e29, o3⟩ := d29.resolve_left (by decide)
          obtain ⟨A4, e32, r4⟩ := d32.resolve_left (by decide)
          rw [e29, e32]
          exact mut_app (A := A3) (c := c3) (xs := last ++ info) (A1 := A4) (c1 := 1) (bs := [ib]) (s := .tmp 29) (x := .tmp 32) rfl rfl rfl o3 rfl r4 HLN.out hS.size (fun A5 c5 w5 o5 hb5 => ⟨hS.trans hb5, ⟨A5, c5, rfl, o5.rd⟩, fun j hj x hx => DX_turn w w5 j hj x hx⟩)
        refine ObsM.cons (by decide) ?_ ?_
        · intro b hb u w hS hd
          have hb' : b = true := hb
          subst hb'
          have d25 : u 25 = kv K := depM hd 0 rfl
          have d26 : u 26 = .slice A key.length c := depM hd 1 rfl
          obtain ⟨A3, c3, d33, r3⟩ : ∃ A c, u 33 = .slice A (last ++ info ++ [ib]).length c ∧ Rd w w.heap.size A c (last ++ info ++ [ib]) := depM hd 8 rfl
          rw [d25, d26, d33]
          refine GvM.call 22 #[kv K, .slice A key.length c, .slice A3 (last ++ info ++ [ib]).length c3] rfl (by go_simp) ((KM.out A3 c3 w hS r3).mono ?_)
          rintro e w' ⟨A4, c4, rfl, r4, hb4⟩
          exact ⟨_, rfl, ⟨rfl, A4, c4, rfl, r4⟩, hb4⟩
        exact trivial
      intro u wz hS hd
      obtain ⟨_, A4, c4, d34, r4⟩ : true = true ∧ ∃ A c, u 34 = .slice A 32 c ∧ Rd wz wz.heap.size A c (macN key (last ++ info ++ [ib])) := hd 9 (by decide)
      rw [d34]
      clear hd d34 KJ KM
      simp only [List.drop_succ_cons, List.drop_zero]
      rw [← HTS.out] at r4
      have ro4 := (ro.keep hS).mono hS.size
      have hJ := join_any (xs := out) (ys := expT key info i1) (A := Ao) (c := co) (A' := A4) (c' := c4) (B := wz.heap.size) (by rw [HLO.out, HLT.out]; omega) wz ro4 r4 (Nat.le_refl _)
      rw [HLT.out, ← HOS.out] at hJ
      have KJ := Lib.hid hJ
      clear hJ
      go_wp2_with fail
      go_at_call 24
      refine KJ.out.mono ?_
      rintro e w5 ⟨A5, c5, rfl, o5, hb5⟩
      have hbz := (hb.trans (hS.mono hb.size)).trans (hb5.mono (Nat.le_trans hb.size hS.size))
      have HR4 := Lib.hid ((r4.keep hb5).mono hb5.size)
      have HO5 := Lib.hid o5.rd
      clear hb5 o5 r4 ro4 hS KJ
      have w1 : IntKind.i64.wrap ((i1 : Int) + 1) = ((i1 + 1 : Nat) : Int) := by rw [IntKind.wrap_i64]; have := HI1.out; omega
      go_wp2_with fail
      exact ⟨⟨i1, by have := HI1.out; omega, by simp, ⟨A5, c5, A4, c4, rfl, by rw [HLT.out], HO5.out, HR4.out⟩, .inr (by have := HI1.out; omega), hbz⟩, by have := HI1.out; simp [intOf]; omega⟩
    · have g3 : ¬ ((expO key info j).length : Int) < (n : Int) := by omega
      have hjj : (n + 31) / 32 = j := by omega
      have hex : expN key info n = (expO key info j).take n := by unfold expN; rw [hjj]
      have HN := Lib.hid (show n ≤ co by have := ro.cap; omega)
      have hrd := ro.sub_ (l := 0) (n := n) (by omega)
      rw [List.drop_zero, Nat.sub_zero, ← hex] at hrd
      have HRD := Lib.hid hrd
      clear hrd hex hjj hlo ro rl
      generalize (expO key info j).length = lo at *
      go_wp2_with ((with_reducible refine slice_arm_hi (A := Ao) (n := lo) (c := co) n HN.out ?_ ?_ ?_); rfl; rfl)
      exact bodyPost_ret (results_tmp2 rfl _ _ _) rfl ⟨_, _, rfl, HRD.out, hc.trans (hb.mono hc.size)⟩
end
end Go.Proofs.YtbofehdihflkiaaDoor
