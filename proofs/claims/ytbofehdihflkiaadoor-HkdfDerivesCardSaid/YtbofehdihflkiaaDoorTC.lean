/-
  The code's Expand, Derive (layer 7). By an AI agent. append(x, make([]byte, n)...): a row of one's own, and noughts behind it. Of no program. By an AI agent. Layer 7's laws HkdfDerives, HkdfBegins, HkdfLong. Written by tools/gen_h16.py. By an AI agent.
-/
import Derived.Test.YtbofehdihflkiaaDoorTA
import Derived.Test.YtbofehdihflkiaaDoorTB
import Derived.Test.YtbofehdihflkiaaDoorMA
import Derived.Test.YtbofehdihflkiaaDoorTB
namespace Go.Proofs.YtbofehdihflkiaaDoor
open Go Go.RowKit
set_option maxRecDepth 20000
section
attribute [local irreducible] rl setA bvf xk sumN macN expT expO
set_option maxHeartbeats 6400000 in
theorem codeExpand_any {A A' : Option Addr} {c c' n : Nat} {key info : List UInt8} (hn : n ≤ 8160) (hkl : key.length ≤ 1000000) (hil : info.length ≤ 1000000) (w : World) (hG : Glb w) (hr : Rd w w.heap.size A c key) (hs : Rd w w.heap.size A' c' info) :
    Calls Tryd.prog 15 #[.slice A key.length c, .slice A' info.length c', .int .i64 (n : Int)] w fun e w' => ∃ A2 c2, e = .returned (.tuple #[.slice A2 n c2, .int .i64 0]) ∧ Rd w' w'.heap.size A2 c2 (expN key info n) ∧ Below w.heap.size w w' := by
  obtain ⟨i0, hi, hz0, hz1, hz2⟩ := info_parts infoB6
  have HG4 := hG.four
  have HS1 := Lib.hid (fun i => expT_succ key info i)
  have HEX : expN key info n = (expO key info ((n + 31) / 32)).take n := rfl
  obtain ⟨k1, e1⟩ : ∃ k, k = xk (keyN key) 54 := ⟨_, rfl⟩
  obtain ⟨k2, e2⟩ : ∃ k, k = xk (keyN key) 92 := ⟨_, rfl⟩
  have l1 : k1.length = 64 := by rw [e1]; exact xk_len _ _
  have l2 : k2.length = 64 := by rw [e2]; exact xk_len _ _
  have HM := Lib.hid (fun b => show sumN smallS (k2 ++ sumN smallS (k1 ++ b)) = macN key b by rw [e1, e2]; exact (macN_eq _ _).symm)
  obtain ⟨kn, hkn⟩ : ∃ kn, kn = keyN key := ⟨_, rfl⟩
  have KN := fun w hG hr => coder_any (A := A) (c := c) (key := key) (B := w.heap.size) (by omega) w hG hr (Nat.le_refl _)
  rw [← hkn] at e1 e2 KN
  rw [← e1, ← e2] at KN
  have KN2 := Lib.hid KN
  obtain ⟨nb, hnb⟩ : ∃ x, x = (n + 31) / 32 := ⟨_, rfl⟩
  rw [← hnb] at HEX
  rw [HEX]
  obtain ⟨n1, hn1⟩ : ∃ x, x = n + 32 := ⟨_, rfl⟩
  obtain ⟨n2, hn2⟩ : ∃ x, x = n + 31 := ⟨_, rfl⟩
  obtain ⟨cp, hcp⟩ : ∃ x, x = nb * 32 := ⟨_, rfl⟩
  have g1 : ¬ (n : Int) < 0 := by omega
  have g2 : ¬ (8160 : Int) < (n : Int) := by omega
  have f1 : IntKind.i64.wrap ((n : Int) + 32) = (n1 : Int) := by rw [IntKind.wrap_i64]; omega
  have f2 : IntKind.i64.wrap ((n1 : Int) - 1) = (n2 : Int) := by rw [IntKind.wrap_i64]; omega
  have f3 : (n2 : Int) / 32 = (nb : Int) := by omega
  have f4 : (n2 : Int).tdiv 32 = (nb : Int) := by rw [Int.tdiv_eq_ediv_of_nonneg (by omega)]; omega
  have f5 : IntKind.i64.wrap (nb : Int) = (nb : Int) := by rw [IntKind.wrap_i64]; omega
  have f6 : IntKind.i64.wrap ((nb : Int) * 32) = (cp : Int) := by rw [IntKind.wrap_i64]; omega
  have hnb2 : nb ≤ 255 := by omega
  have hnn : n ≤ cp := by omega
  have hcpb : cp ≤ 8160 := by omega
  have hmk := run_mk0 (P := Tryd.prog) 22 5 i0 Tryd.underlying22 hi hz0 hz1 hz2 (n := cp) (by omega)
  have ho := Own.made0 (w := w) (B := w.heap.size) (n := cp) 5 (Nat.le_refl _) (by unfold maxLen; omega)
  have hb1 := (Below.refl w.heap.size w).alloc (Nat.le_refl _) (.cells (madeCells #[.int .u8 0] cp) 5)
  have HNB := Lib.hid hnb
  have HCP := Lib.hid hcp
  have HNN := Lib.hid hnn
  clear e1 e2 hkn KN HEX hnb hn1 hn2 hcp hnn
  go_enter Tryd.func15, Tryd.ntmps15
  go_upto_region 5 with fail
  clear hmk f1 f2 f3 f4 f5 f6 g1 g2
  obtain ⟨v1, ev⟩ : ∃ v, v = w.alloc (.cells (madeCells #[.int .u8 0] cp) 5) := ⟨_, rfl⟩
  obtain ⟨go, eg⟩ : ∃ g, g = w.heap.size := ⟨_, rfl⟩
  rw [← ev] at ho hb1 ⊢
  replace ho : Own v1 w.heap.size 5 (some ⟨go, 0, none⟩) cp [] := by rw [eg]; exact ho
  rw [show Value.slice (some ⟨w.heap.size, 0, none⟩) 0 cp = .slice (some ⟨go, 0, none⟩) 0 cp by rw [eg]]
  clear ev eg
  have hr1 := (hr.keep hb1).mono hb1.size
  have hG1 := hG.next hb1
  go_wp2_with fail
  go_at_call 20
  refine (KN2.out v1 hG1 hr1).mono ?_
  rintro e v2 ⟨g1, g2, rfl, h1, h2, hb2⟩
  have ho2 := ho.keep hb2
  have hc2 := hb1.trans (hb2.mono hb1.size)
  have oc := OwnF.lit (w := v2) (B := v2.heap.size) 39 (Nat.le_refl _) #[hp g1, hp g2] 2 (pr2 (hp g1) (hp g2)) (by decide) (by with_unfolding_all rfl)
  have hb3 := (Below.refl v2.heap.size v2).alloc (Nat.le_refl _) (.cells #[hp g1, hp g2] 39)
  have h13 := h1.keep hb3
  have h23 := h2.keep hb3
  have ho3 := ho2.keep hb3
  have hlo := ho.lt
  have hge := ho.ge
  have hne1 : g1 ≠ go := by have := h1.ge; omega
  have hne2 : g2 ≠ go := by have := h2.ge; omega
  have hnec : v2.heap.size ≠ go := by have := hb2.size; omega
  clear ho ho2 h1 h2 hr1 KN2 hr
  go_upto_region 6 with fail
  obtain ⟨v3, e3⟩ : ∃ v, v = v2.alloc (.cells #[hp g1, hp g2] 39) := ⟨_, rfl⟩
  obtain ⟨gc, egc⟩ : ∃ g, g = v2.heap.size := ⟨_, rfl⟩
  rw [← e3] at oc hb3 h13 h23 ho3 ⊢
  replace oc : OwnF v3 v2.heap.size 39 (some ⟨gc, 0, none⟩) 2 2 (pr2 (hp g1) (hp g2)) := by rw [egc]; exact oc
  rw [← egc] at hnec
  rw [show Value.pointer (some ⟨v2.heap.size, 0, none⟩) = .pointer (some ⟨gc, 0, none⟩) by rw [egc]]
  clear e3 egc
  have hc3 := hc2.trans (hb3.mono hc2.size)
  have hG3 := hG.next hc3
  have hs3 := (hs.keep hc3).mono hc3.size
  have hofs := hs.offE (g := go) hge
  have HGO := Lib.hid hge
  clear hs hb1 hb2 hb3 hc2 hG hG1 hge
  go_wp2_with fail
  go_loopw [9, 11, 29] (fun x y z wr => ∃ j : Nat, j ≤ nb ∧ z = .int .i64 (j : Int) ∧ x = .slice (some ⟨go, 0, none⟩) (32 * j) cp ∧ Own wr w.heap.size 5 (some ⟨go, 0, none⟩) cp (expO key info j) ∧ (∃ Al cl, y = .slice Al (expT key info j).length cl ∧ Rd wr wr.heap.size Al cl (expT key info j)) ∧ Ex go v3 wr)
    (fun _ _ z _ => nb - (intOf z).toNat)
  case atStart => exact ⟨0, Nat.zero_le _, rfl, rfl, by rw [expO_zero]; exact ho3, ⟨none, 0, by rw [expT_zero]; rfl, by rw [expT_zero]; exact ⟨Nat.le_refl _, fun _ => ⟨rfl, rfl⟩, fun h => absurd rfl h⟩⟩, Ex.refl _ _⟩
  case round =>
    clear ho3
    obtain ⟨j, hj, rfl, rfl, oo, ⟨Al, cl, rfl, rl⟩, hx⟩ := hrel
    by_cases hlt : j < nb
    · have g3 : (j : Int) < (nb : Int) := by omega
      obtain ⟨vr, er⟩ : ∃ v, v = wr := ⟨_, rfl⟩
      rw [← er] at oo rl hx ⊢
      clear er
      have hll := expT_le key info j
      have hTs := HS1.out j
      have hOs := expO_succ key info j
      have hol := expO_len key info j
      have hTl := expT_len key info j
      obtain ⟨ib, hib⟩ : ∃ b, b = UInt8.ofNat (j + 1) := ⟨_, rfl⟩
      rw [← hib] at hTs
      obtain ⟨i1, hi1⟩ : ∃ x, x = j + 1 := ⟨_, rfl⟩
      obtain ⟨l0, hl0⟩ : ∃ x, x = 32 * j := ⟨_, rfl⟩
      obtain ⟨l1', hl1⟩ : ∃ x, x = 32 * i1 := ⟨_, rfl⟩
      rw [← hi1] at hTs hOs hTl
      rw [← hl0] at hol ⊢
      have q1 : IntKind.i64.wrap ((j : Int) + 1) = (i1 : Int) := by rw [IntKind.wrap_i64]; omega
      have q2 : IntKind.u8.wrap (i1 : Int) = (ib.toNat : Int) := by rw [hib, UInt8.toNat_ofNat', IntKind.wrap_u8]; omega
      have hroom : l1' ≤ cp := by have := HCP.out; omega
      have hsum : l0 + 32 = l1' := by omega
      have hjl : i1 ≤ nb := by omega
      have HJ := Lib.hid (And.intro hi1 (And.intro hl1 hjl))
      have HTS := Lib.hid hTs
      have HOS := Lib.hid hOs
      have HTL := Lib.hid hTl
      have HOL := Lib.hid hol
      have HROOM := Lib.hid hroom
      have HSUM := Lib.hid hsum
      clear hib hTs hOs hi1 hTl hol hl0 hl1 hroom hsum hjl hlt
      have hoo := oo.lt
      have hin := (hs3.exE hx hofs)
      have h1r := h13.ex hx hne1
      have h2r := h23.ex hx hne2
      have ocr := OwnF.ex oc hx hnec
      have hGr := hG3.ex hx (Nat.le_trans HG4 HGO.out)
      generalize hlast : expT key info j = last at *
      generalize hout : expO key info j = out at *
      have cc0 := OwnF.cell ocr (k := 0) (by decide)
      have cc1 := OwnF.cell ocr (k := 1) (by decide)
      replace cc0 : vr.cell? ⟨gc, 0, none⟩ = some (hp g1) := cc0
      replace cc1 : vr.cell? ⟨gc, 1, none⟩ = some (hp g2) := cc1
      obtain ⟨wa, ewa⟩ : ∃ v, v = vr.alloc (.cells #[.int .u8 (ib.toNat : Int)] 5) := ⟨_, rfl⟩
      have xa : Below vr.heap.size vr wa := by rw [ewa]; exact (Below.refl _ _).alloc (Nat.le_refl _) _
      have sa : wa.heap.size = vr.heap.size + 1 := by rw [ewa]; simp
      have ra : Rd wa wa.heap.size (some ⟨vr.heap.size, 0, none⟩) 1 [ib] := by rw [ewa]; exact (Own.lit (w := vr) 5 (Nat.le_refl _) #[.int .u8 (ib.toNat : Int)] [ib] (by simp [maxLen]) rfl).rd
      obtain ⟨wb, ewb⟩ : ∃ v, v = wa.alloc (.cells #[.slice Al last.length cl, .slice A' info.length c', .slice (some ⟨vr.heap.size, 0, none⟩) 1 1] 22) := ⟨_, rfl⟩
      have xb : Below wa.heap.size wa wb := by rw [ewb]; exact (Below.refl _ _).alloc (Nat.le_refl _) _
      have hL : Rds wb wb.heap.size (some ⟨vr.heap.size + 1, 0, none⟩) 3 [last, info, [ib]] := by rw [ewb, ← sa]; exact rds_three 22 ((rl.keep xa).mono xa.size) ((hin.keep xa).mono xa.size) ra
      have xab := xa.trans (xb.mono xa.size)
      have KM := cmac_any (k1 := k1) (k2 := k2) (L := [last, info, [ib]]) (show 3 ≤ 1000 by decide) (by simp [joinL]; omega) (by omega) wb (hGr.next xab) (h1r.keep xab) (h2r.keep xab) hL
      rw [show joinL [last, info, [ib]] = last ++ info ++ [ib] by simp [joinL], HM.out, ← HTS.out] at KM
      have KM2 := Lib.hid KM
      have EWA := Lib.hid ewa
      have EWB := Lib.hid ewb
      have SZ := Lib.hid xab.size
      have XAB := Lib.hid xab
      clear KM hL ewa ewb xa xb xab sa ra hin h1r h2r ocr hGr rl
      go_wp2_with fail
      rw [← EWA.out, ← EWB.out]
      go_at_call 21
      refine KM2.out.mono ?_
      rintro e w5 ⟨g5, rfl, hg5, r5, hb5⟩
      have x5 := XAB.out.trans (hb5.mono SZ.out)
      have o5 := oo.keep x5
      have hof5 : Off go (some ⟨g5, 0, none⟩) := fun ad e => by
        have := SZ.out
        cases e
        show g5 ≠ go
        omega
      have X5 := Lib.hid (hx.trans (Ex.of_below x5))
      clear KM2 XAB SZ EWA EWB hb5 hg5 x5 oo hx cc0 cc1
      go_wp2_with (at_builtin; refine wpList_fit _ rfl (.tmp 41) (.tmp 42) _ rfl w.heap.size 5 i0 Tryd.underlying22 hi hz1 HOL.out HTL.out HSUM.out rfl o5 rfl r5 HROOM.out ?_; intro w6 o6 x6)
      have r6 := r5.ex x6 hof5
      rw [← HOS.out] at o6
      exact ⟨⟨i1, HJ.out.2.2, rfl, by rw [HJ.out.2.1], o6, ⟨_, _, by rw [HTL.out], r6⟩, X5.out.trans x6⟩, by have := HJ.out.1; have := HJ.out.2.2; simp [intOf]; omega⟩
    · obtain rfl : j = nb := by omega
      have hrd := oo.rd.cut_ (n := n) (by rw [expO_len]; have := HNN.out; have := HCP.out; omega)
      have HRD := Lib.hid hrd
      have HF := Lib.hid (hc3.trans (hx.below HGO.out hc3.size))
      have HN := Lib.hid HNN.out
      clear hrd oo rl hx hc3
      go_wp2_with ((with_reducible refine slice_arm_3 (A := some ⟨go, 0, none⟩) (n := 32 * j) (c := cp) n n (Nat.le_refl _) HN.out ?_ ?_ ?_ ?_); rfl; rfl; rfl)
      exact bodyPost_ret (results_tmp2 rfl _ _ _) rfl ⟨_, _, rfl, HRD.out, HF.out⟩
end
end Go.Proofs.YtbofehdihflkiaaDoor
namespace Go.Proofs.YtbofehdihflkiaaDoor
open Go Go.RowKit
section
variable {P : Program}
theorem zc_list (z : Value) (hz : z.cells = #[z]) (n : Nat) : (Builtin.zeroCells z.cells n).toList = List.replicate n z := by
  rw [hz]
  refine List.ext_getElem (by simp [Builtin.zeroCells]) fun i h1 h2 => ?_
  simp [Builtin.zeroCells, Nat.mod_one]
theorem run_append_zeros (w : World) (base : Nat) (t tx ty e : TypeId) (ik : IntKind) (i : TypeInfo) (z : Value) (ht : P.underlying t = some (.slice e)) (htx : P.underlying tx = some (.int ik)) (hi : P.info? e = some i) (hz : i.zero = some z)
    (hsize : i.size = 1) (hby : i.bytes = 1) (hzc : z.cells = #[z]) (hz1 : z.oneCell' = true) {v : Value} {n m : Nat} {xs : List Value} (hown : w.ownsRow base e 1 v n xs) (hbytes : n + m ≤ 140737488355328) (hbase : base ≤ w.heap.size) :
    ∃ v' w', (Builtin.append_ #[t, tx] ty #[v, .int .i64 (m : Int)]).run P w = .ok v' w' ∧ w'.ownsRow base e 1 v' (n + m) (xs ++ List.replicate m z) ∧ w.grownBy w' v.ownBlock := by
  have hw : IntKind.i64.wrap (m : Int) = (m : Int) := by rw [IntKind.wrap_i64]; omega
  have h0 : ¬ (m : Int) < 0 := by omega
  have h48 : ¬ (281474976710656 : Int) < (m : Int) := by omega
  have hxl : xs.length = n := by have := hown.1; omega
  have hlen : (xs ++ List.replicate m z).length = n + m := by rw [List.length_append, List.length_replicate, hxl]
  have h63 : n + m ≤ maxLen := by simp only [maxLen]; omega
  have hzl := zc_list z hzc
  have hnew : ∀ wz : World, (if m = 0 then pure #[] else do pure (Builtin.zeroCells (← zeroValue e).cells m) : Sem (Array Value)).run P wz = .ok (Builtin.zeroCells z.cells m) wz := by
    intro wz
    by_cases h : m = 0
    · subst h
      rw [if_pos rfl]
      simp [Builtin.zeroCells]
    · rw [if_neg h]
      simp [zeroValue, typeInfo, hi, hz]
  rcases hown.2 with ⟨rfl, rfl⟩ | ⟨g, cap, cur, rfl, hbg, hg, hnc, hcm, hcs, htake⟩
  · have hx : xs = [] := List.eq_nil_of_length_eq_zero hxl
    subst hx
    by_cases hm : m = 0
    · subst hm
      refine ⟨.slice none 0 0, w, ?_, World.ownsRow_nil w base e 1, ⟨rfl, rfl, rfl, Nat.le_refl _, fun _ _ _ => rfl⟩⟩
      have hw0 : IntKind.i64.wrap 0 = 0 := rfl
      simp [Builtin.append_, run_underlying ht, run_underlying htx, sizeOf, typeInfo, hi, hby, asInt, asIntOf, hw0]
    · have hge := grownCap_ge w m 0 e
      have hcm := grownCap_le_maxLen w m 0 e (by omega)
      refine ⟨.slice (some ⟨w.heap.size, 0, none⟩) (0 + m) (grownCap w m 0 e), w.drew.alloc (.cells ((Builtin.zeroCells z.cells m) ++ Builtin.zeroCells z.cells (grownCap w m 0 e - m)) e), ?_, ⟨by rw [hlen, Nat.mul_one], .inr ⟨w.heap.size, _, _, rfl, hbase, heap_alloc_new w.drew _, by omega, hcm, ?_, ?_⟩⟩, ⟨rfl, rfl, rfl, by simp, fun k hk _ => heap_alloc_old w.drew _ hk⟩⟩
      · have h63' : ¬ (9223372036854775807 < (m : Int)) := by omega
        have h48' : ¬ (281474976710656 < Builtin.nextslicecap m 0) := by rw [nextslicecap_zero (by omega)]; omega
        have hn := hnew w.drew
        rw [if_neg hm] at hn
        simp [Builtin.append_, run_underlying ht, run_underlying htx, sizeOf, typeInfo, zeroValue, hi, hz, hsize, hby, asInt, asIntOf, hw, h0, h48, hm, h63', h48', Question.forced, run_firstCells_none, newRow, grownCap]
      · simp only [Array.size_append, size_zeroCells, hzc]
        simp
        omega
      · simp only [Array.toList_append, hzl, List.nil_append]
        rw [List.take_append_of_le_length (by simp), List.take_of_length_le (by simp)]
  · by_cases hroom : n + m ≤ cap
    · have hst := run_storeCells_at P g n e (List.replicate m z) 0 cur w hg (by simp; omega) (by intro u hu; rw [List.mem_replicate] at hu; rw [hu.2]; exact hz1)
      simp only [Nat.add_zero] at hst
      refine ⟨.slice (some ⟨g, 0, none⟩) (n + m) cap, w.setRow g (cur.toList.take n ++ List.replicate m z ++ cur.toList.drop (n + (List.replicate m z).length)).toArray, ?_, ⟨by rw [hlen, Nat.mul_one], .inr ⟨g, cap, _, rfl, hbg, setRow_heap w g cur _ e _ hg, hroom, hcm, ?_, ?_⟩⟩, ⟨rfl, rfl, rfl, by simp, fun k _ hk => setRow_other w g k _ (fun e => hk (by simp [Value.ownBlock, e]))⟩⟩
      · have hn := hnew w
        by_cases hm : m = 0
        · subst hm
          have hw0 : IntKind.i64.wrap 0 = 0 := rfl
          simp at hst
          simp [Builtin.append_, run_underlying ht, run_underlying htx, sizeOf, typeInfo, zeroValue, hi, hz, hsize, hby, asInt, asIntOf, hw0, show n ≤ cap by omega, Addr.add_lit, hst]
        · simp [Builtin.append_, run_underlying ht, run_underlying htx, sizeOf, typeInfo, zeroValue, hi, hz, hsize, hby, asInt, asIntOf, hw, h0, h48, hm, hroom, Addr.add_lit, hzl, hst]
      · simp only [List.size_toArray, List.length_append, List.length_take, List.length_drop, Array.length_toList, List.length_replicate]
        omega
      · rw [Nat.mul_one] at *
        have : (cur.toList.take n) = xs := by simpa using htake
        rw [this, ← hxl]
        simp [List.take_append, List.append_assoc]
        exact List.take_of_length_le (by omega)
    · have holds : ∀ j u, xs[j]? = some u → w.cell? ((⟨g, 0, none⟩ : Addr).add j) = some u := hown.cells (g := g) rfl
      have hfo := run_firstCells_some (P := P) w.drew 1 n ⟨g, 0, none⟩ n cap xs (by omega) (by simpa using holds)
      have hge := grownCap_ge w (n + m) cap e
      have hcm2 := grownCap_le_maxLen w (n + m) cap e h63
      have hm : m ≠ 0 := by omega
      refine ⟨.slice (some ⟨w.heap.size, 0, none⟩) (n + m) (grownCap w (n + m) cap e), w.drew.alloc (.cells (xs.toArray ++ Builtin.zeroCells z.cells m ++ Builtin.zeroCells z.cells (grownCap w (n + m) cap e - (n + m))) e), ?_, ⟨by rw [hlen, Nat.mul_one], .inr ⟨w.heap.size, _, _, rfl, hbase, heap_alloc_new w.drew _, by omega, hcm2, ?_, ?_⟩⟩, ⟨rfl, rfl, rfl, by simp, fun k hk _ => heap_alloc_old w.drew _ hk⟩⟩
      · have h63' : ¬ (9223372036854775807 < ((n : Int) + (m : Int))) := by omega
        have h48' : ¬ (281474976710656 < Builtin.nextslicecap (n + m) cap) := by have := growslice_fits (need := n + m) (old := cap) (bytes := 1) (by omega) (by omega); omega
        simp [Builtin.append_, run_underlying ht, run_underlying htx, sizeOf, typeInfo, zeroValue, hi, hz, hsize, hby, asInt, asIntOf, hw, h0, h48, hroom, hm, h63', h48', Question.forced, hfo, newRow, grownCap]
      · simp only [Array.size_append, size_zeroCells, hzc, List.size_toArray]
        simp
        omega
      · simp only [Array.toList_append, hzl]
        rw [List.take_append_of_le_length (by rw [hlen]; omega), List.take_of_length_le (by rw [hlen]; omega)]
end
end Go.Proofs.YtbofehdihflkiaaDoor
namespace Go.Proofs.YtbofehdihflkiaaDoor
open Go Go.RowKit
set_option maxRecDepth 20000
theorem slice_op_hi {o : Oper} {a : Act} {w : World} {x hi : Operand} {A : Option Addr} {n c h : Nat} (ho : o.op = .slice 22 x none (some hi) none) (e1 : a.eval x = .slice A n c) (e2 : a.eval hi = .int .i64 (h : Int)) (h1 : h ≤ c) :
    (execOp a.eval o).run Tryd.prog w = .ok (.value (.slice (subA A c 0) h c)) w := by
  unfold execOp
  simp only [ho, e1, e2, Option.map_some, Option.map_none, Instr.sliceAt, Sem.run_bind, run_underlying Tryd.underlying22 w, slice_run_hi w h1, Result.andThen_ok, Sem.run_pure]
theorem codeExpand_no {A A' : Option Addr} {n0 c n1 c' : Nat} {i : Int} (hi : i < 0 ∨ 8160 < i) (w : World) :
    Calls Tryd.prog 15 #[.slice A n0 c, .slice A' n1 c', .int .i64 i] w fun e w' => e = .returned (.tuple #[.slice none 0 0, .int .i64 2]) ∧ Below w.heap.size w w' := by
  rcases hi with h | h
  · go_enter Tryd.func15, Tryd.ntmps15
    go_wp2_with fail
    exact bodyPost_ret (results_tmp2 rfl _ _ _) rfl ⟨rfl, Below.refl _ _⟩
  · have h' : ¬ i < 0 := by omega
    go_enter Tryd.func15, Tryd.ntmps15
    go_wp2_with fail
    exact bodyPost_ret (results_tmp2 rfl _ _ _) rfl ⟨rfl, Below.refl _ _⟩
section
attribute [local irreducible] sumN macN extN expN
set_option maxHeartbeats 1600000 in
theorem codeDerive_any {A A' A2 : Option Addr} {c c' c2 n : Nat} {salt key info : List UInt8} (hn : n ≤ 8160) (hsl : salt.length ≤ 1000000) (hkl : key.length ≤ 1000000) (hil : info.length ≤ 1000000) (w : World) (hG : Glb w) (hr : Rd w w.heap.size A c salt) (hk : Rd w w.heap.size A' c' key) (hs : Rd w w.heap.size A2 c2 info) :
    Calls Tryd.prog 17 #[.slice A salt.length c, .slice A' key.length c', .slice A2 info.length c2, .int .i64 (n : Int)] w fun e w' => ∃ A3 c3, e = .returned (.tuple #[.slice A3 n c3, .int .i64 0]) ∧ Rd w' w'.heap.size A3 c3 (expN (extN salt key) info n) ∧ Below w.heap.size w w' := by
  have KX := Lib.hid (codeExtract_any (A := A) (A' := A') (c := c) (c' := c') hsl hkl w hG hr hk)
  go_enter Tryd.func17, Tryd.ntmps17
  go_wp2_with fail
  go_at_call 13
  refine KX.out.mono ?_
  rintro e v1 ⟨B1, d1, rfl, r1, hc⟩
  have hE := codeExpand_any (A := B1) (c := d1) (A' := A2) (c' := c2) (key := extN salt key) (info := info) hn (by rw [extN_len]; decide) hil v1 (hG.next hc) r1 ((hs.keep hc).mono hc.size)
  rw [extN_len] at hE
  have KE := Lib.hid hE
  clear hE KX
  go_wp2_with fail
  go_at_call 15
  refine KE.out.mono ?_
  rintro e v2 ⟨B2, d2, rfl, r2, hb⟩
  go_wp2_with fail
  exact bodyPost_ret (results_tmp2 rfl _ _ _) rfl ⟨B2, d2, rfl, r2, hc.trans (hb.mono hc.size)⟩
set_option maxHeartbeats 1600000 in
theorem codeDerive_no {A A' A2 : Option Addr} {c c' c2 : Nat} {i : Int} {salt key info : List UInt8} (hi : i < 0 ∨ 8160 < i) (hsl : salt.length ≤ 1000000) (hkl : key.length ≤ 1000000) (w : World) (hG : Glb w) (hr : Rd w w.heap.size A c salt) (hk : Rd w w.heap.size A' c' key) :
    Calls Tryd.prog 17 #[.slice A salt.length c, .slice A' key.length c', .slice A2 info.length c2, .int .i64 i] w fun e w' => e = .returned (.tuple #[.slice none 0 0, .int .i64 2]) ∧ Below w.heap.size w w' := by
  have KX := Lib.hid (codeExtract_any (A := A) (A' := A') (c := c) (c' := c') hsl hkl w hG hr hk)
  have HI := Lib.hid hi
  clear hi
  go_enter Tryd.func17, Tryd.ntmps17
  go_wp2_with fail
  go_at_call 13
  refine KX.out.mono ?_
  rintro e v1 ⟨B1, d1, rfl, r1, hc⟩
  go_wp2_with fail
  go_at_call 15
  refine (codeExpand_no HI.out _).mono ?_
  rintro e v2 ⟨rfl, hb⟩
  go_wp2_with fail
  exact bodyPost_ret (results_tmp2 rfl _ _ _) rfl ⟨rfl, hc.trans (hb.mono hc.size)⟩
end
/-- A slice of bytes and an error. -/
def tupE (S : List UInt8) (er : Nat) (v : Value) (w : World) : Prop := ∃ A c, v = .tuple #[.slice A S.length c, .int .i64 (er : Int)] ∧ Rd w w.heap.size A c S
theorem tupE_keep {S : List UInt8} {er : Nat} (v : Value) (w w' : World) (h : tupE S er v w) (hb : Below w.heap.size w w') : tupE S er v w' := by
  obtain ⟨A, c, e, r⟩ := h
  exact ⟨A, c, e, (r.keep hb).mono hb.size⟩
abbrev keysV (A0 : Option Addr) (n0 c0 : Nat) (A1 : Option Addr) (n1 c1 : Nat) (A2 : Option Addr) (n2 c2 : Nat) (i : Int) : Array Value := #[.slice A0 n0 c0, .slice A1 n1 c1, .slice A2 n2 c2, .int .i64 i]
section
attribute [local irreducible] sumN macN extN expN
set_option maxHeartbeats 3200000 in
theorem derives_law {A0 A1 A2 : Option Addr} {c0 c1 c2 er : Nat} {i : Int} {salt key info S : List UInt8}
    (kg : ∀ (A : Option Addr) (c : Nat) (A' : Option Addr) (c' : Nat) (A2 : Option Addr) (c2 : Nat) (w : World), Glb w → Rd w w.heap.size A c salt → Rd w w.heap.size A' c' key → Rd w w.heap.size A2 c2 info → Calls Tryd.prog 17 #[.slice A salt.length c, .slice A' key.length c', .slice A2 info.length c2, .int .i64 i] w fun e w' => ∃ A2 c2, e = .returned (.tuple #[.slice A2 S.length c2, .int .i64 (er : Int)]) ∧ Rd w' w'.heap.size A2 c2 S ∧ Below w.heap.size w w')
    (kr : ∀ (A : Option Addr) (c : Nat) (A' : Option Addr) (c' : Nat) (A2 : Option Addr) (c2 : Nat) (w : World), Rd w w.heap.size A c salt → Rd w w.heap.size A' c' key → Rd w w.heap.size A2 c2 info → Calls Tryd.prog 18 #[.slice A salt.length c, .slice A' key.length c', .slice A2 info.length c2, .int .i64 i] w fun e w' => ∃ A2 c2, e = .returned (.tuple #[.slice A2 S.length c2, .int .i64 (er : Int)]) ∧ Rd w' w'.heap.size A2 c2 S ∧ Below w.heap.size w w')
    (ka : ∀ w, Glb w → Calls Tryd.prog 9 #[] w fun e w' => e = .returned (.bool true) ∧ Below w.heap.size w w')
    (n0 : salt.length ≤ 4000) (n1 : key.length ≤ 4000) (n2 : info.length ≤ 400) (w : World) (hG : Glb w) (hr : Rd w w.heap.size A0 c0 salt) (hk : Rd w w.heap.size A1 c1 key) (hs : Rd w w.heap.size A2 c2 info) :
    Calls Tryd.prog 6 #[.agg (keysV A0 salt.length c0 A1 key.length c1 A2 info.length c2 i)] w fun e w' => e = .returned (.bool true) ∧ Below w.heap.size w w' := by
  have KG := Lib.hid kg
  have KR := Lib.hid kr
  have KA := Lib.hid ka
  have KO0 := Lib.hid (fun A c w h => own7_rd salt A c w (by omega) h)
  have KO1 := Lib.hid (fun A c w h => own7_rd key A c w (by omega) h)
  have KO2 := Lib.hid (fun A c w h => own7_rd info A c w (by omega) h)
  have g1 : ¬ (4000 : Int) < (salt.length : Int) := by omega
  have g2 : ¬ (4000 : Int) < (key.length : Int) := by omega
  have g3 : ¬ (400 : Int) < (info.length : Int) := by omega
  have ob := OwnF.lit (w := w) (B := w.heap.size) 32 (Nat.le_refl _) (keysV A0 salt.length c0 A1 key.length c1 A2 info.length c2 i) 4 (fun k => ([.slice A0 salt.length c0, .slice A1 key.length c1, .slice A2 info.length c2, .int .i64 i] : List Value).getD k undef) (by decide) (by rfl)
  have hc := (Below.refl w.heap.size w).alloc (Nat.le_refl _) (.cells (keysV A0 salt.length c0 A1 key.length c1 A2 info.length c2 i) 32)
  clear kg kr ka
  go_enter Tryd.func6, Tryd.ntmps6
  go_upto_region 3 with fail
  obtain ⟨v1, e1⟩ : ∃ v, v = w.alloc (.cells (keysV A0 salt.length c0 A1 key.length c1 A2 info.length c2 i) 32) := ⟨_, rfl⟩
  obtain ⟨gk, eg⟩ : ∃ g, g = w.heap.size := ⟨_, rfl⟩
  rw [← e1] at ob hc ⊢
  generalize hfl : (fun k => ([.slice A0 salt.length c0, .slice A1 key.length c1, .slice A2 info.length c2, .int .i64 i] : List Value).getD k undef) = fl at ob
  replace ob : OwnF v1 w.heap.size 32 (some ⟨gk, 0, none⟩) 4 4 fl := by rw [eg]; exact ob
  subst hfl
  rw [show Value.pointer (some ⟨w.heap.size, 0, none⟩) = .pointer (some ⟨gk, 0, none⟩) by rw [eg]]
  clear e1 eg
  have h0 := (hr.keep hc).mono hc.size
  have h1 := (hk.keep hc).mono hc.size
  have h2 := (hs.keep hc).mono hc.size
  have HG := Lib.hid (fun wz (hz : Below v1.heap.size v1 wz) => hG.next (hc.trans (hz.mono hc.size)))
  have HB := Lib.hid (fun wz (hz : Below v1.heap.size v1 wz) => show wz.cell? ⟨gk, 0, none⟩ = some (.slice A0 salt.length c0) ∧ wz.cell? ⟨gk, 1, none⟩ = some (.slice A1 key.length c1) ∧ wz.cell? ⟨gk, 2, none⟩ = some (.slice A2 info.length c2) ∧ wz.cell? ⟨gk, 3, none⟩ = some (.int .i64 i) from
    ⟨OwnF.cell (OwnF.keep ob hz) (k := 0) (by decide), OwnF.cell (OwnF.keep ob hz) (k := 1) (by decide), OwnF.cell (OwnF.keep ob hz) (k := 2) (by decide), OwnF.cell (OwnF.keep ob hz) (k := 3) (by decide)⟩)
  clear g1 g2 g3 ob hr hk hs hG
  refine wp_region_inv 16 [25, 26, 27, 28, 29, 30, 31, 32, 33, 34, 35, 36, 24, 37, 38, 3] [.val (.pointer (some ⟨gk, 0, none⟩)), .byt salt, .byt salt, .val (.pointer (some ⟨gk, 1, none⟩)), .byt key, .byt key, .val (.pointer (some ⟨gk, 2, none⟩)), .byt info, .byt info, .val (.pointer (some ⟨gk, 3, none⟩)), .val (.int .i64 i), .sat (tupE S er) tupE_keep, .sat (tupE S er) tupE_keep, .byt S, .val (.int .i64 (er : Int)), .byt S] (fun wz => Below v1.heap.size v1 wz) (by kernel_rfl) (by kernel_rfl) (fun wz wz' hz hb => hz.trans (hb.mono hz.size)) ((Below.refl _ _).drew) (fun u => by simp only [puts, List.foldl_cons, List.foldl_nil]; go_simp; exact rfl) ?_ ?_
  · simp only [List.take_succ_cons, List.take_zero]
    refine Obs.cons (fun u w hS hd => ?_) ?_
    · exact Gv.run (.pointer (some ⟨gk, 0, none⟩)) rfl (by go_simp) rfl
    refine Obs.cons (fun u w hS hd => ?_) ?_
    · have d25 : u 25 = .pointer (some ⟨gk, 0, none⟩) := dep hd 0 rfl
      rw [d25]
      obtain ⟨q0, q1, q2, q3⟩ := HB.out w hS
      exact Gv.run (.slice A0 salt.length c0) rfl (by go_simp) ⟨_, _, rfl, (h0.keep hS).mono hS.size⟩
    refine Obs.cons (fun u w hS hd => ?_) ?_
    · obtain ⟨A26, c26, d26, g26⟩ : (Know.byt salt).ok (u 26) w := dep hd 1 rfl
      rw [d26]
      refine Gv.call 10 #[.slice A26 salt.length c26] rfl (by go_simp) ((KO0.out _ _ w g26).mono ?_)
      rintro e w' ⟨A, c, rfl, R, hb⟩
      exact ⟨_, rfl, ⟨A, c, rfl, R⟩, hb⟩
    refine Obs.cons (fun u w hS hd => ?_) ?_
    · exact Gv.run (.pointer (some ⟨gk, 1, none⟩)) rfl (by go_simp) rfl
    refine Obs.cons (fun u w hS hd => ?_) ?_
    · have d28 : u 28 = .pointer (some ⟨gk, 1, none⟩) := dep hd 3 rfl
      rw [d28]
      obtain ⟨q0, q1, q2, q3⟩ := HB.out w hS
      exact Gv.run (.slice A1 key.length c1) rfl (by go_simp) ⟨_, _, rfl, (h1.keep hS).mono hS.size⟩
    refine Obs.cons (fun u w hS hd => ?_) ?_
    · obtain ⟨A29, c29, d29, g29⟩ : (Know.byt key).ok (u 29) w := dep hd 4 rfl
      rw [d29]
      refine Gv.call 10 #[.slice A29 key.length c29] rfl (by go_simp) ((KO1.out _ _ w g29).mono ?_)
      rintro e w' ⟨A, c, rfl, R, hb⟩
      exact ⟨_, rfl, ⟨A, c, rfl, R⟩, hb⟩
    refine Obs.cons (fun u w hS hd => ?_) ?_
    · exact Gv.run (.pointer (some ⟨gk, 2, none⟩)) rfl (by go_simp) rfl
    refine Obs.cons (fun u w hS hd => ?_) ?_
    · have d31 : u 31 = .pointer (some ⟨gk, 2, none⟩) := dep hd 6 rfl
      rw [d31]
      obtain ⟨q0, q1, q2, q3⟩ := HB.out w hS
      exact Gv.run (.slice A2 info.length c2) rfl (by go_simp) ⟨_, _, rfl, (h2.keep hS).mono hS.size⟩
    refine Obs.cons (fun u w hS hd => ?_) ?_
    · obtain ⟨A32, c32, d32, g32⟩ : (Know.byt info).ok (u 32) w := dep hd 7 rfl
      rw [d32]
      refine Gv.call 10 #[.slice A32 info.length c32] rfl (by go_simp) ((KO2.out _ _ w g32).mono ?_)
      rintro e w' ⟨A, c, rfl, R, hb⟩
      exact ⟨_, rfl, ⟨A, c, rfl, R⟩, hb⟩
    refine Obs.cons (fun u w hS hd => ?_) ?_
    · exact Gv.run (.pointer (some ⟨gk, 3, none⟩)) rfl (by go_simp) rfl
    refine Obs.cons (fun u w hS hd => ?_) ?_
    · have d34 : u 34 = .pointer (some ⟨gk, 3, none⟩) := dep hd 9 rfl
      rw [d34]
      obtain ⟨q0, q1, q2, q3⟩ := HB.out w hS
      exact Gv.run (.int .i64 i) rfl (by go_simp) rfl
    refine Obs.cons (fun u w hS hd => ?_) ?_
    · obtain ⟨A27, c27, d27, g27⟩ : (Know.byt salt).ok (u 27) w := dep hd 2 rfl
      rw [d27]
      obtain ⟨A30, c30, d30, g30⟩ : (Know.byt key).ok (u 30) w := dep hd 5 rfl
      rw [d30]
      obtain ⟨A33, c33, d33, g33⟩ : (Know.byt info).ok (u 33) w := dep hd 8 rfl
      rw [d33]
      have d35 : u 35 = .int .i64 i := dep hd 10 rfl
      rw [d35]
      refine Gv.call 17 #[.slice A27 salt.length c27, .slice A30 key.length c30, .slice A33 info.length c33, .int .i64 i] rfl (by go_simp) ((KG.out _ _ _ _ _ _ w (HG.out w hS) g27 g30 g33).mono ?_)
      rintro e w' ⟨A, c, rfl, R, hb⟩
      exact ⟨_, rfl, ⟨A, c, rfl, R⟩, hb⟩
    refine Obs.cons (fun u w hS hd => ?_) ?_
    · obtain ⟨A, c, d36, g36⟩ : (Know.sat (tupE S er) tupE_keep).ok (u 36) w := dep hd 11 rfl
      rw [d36]
      exact Gv.run (.tuple #[.slice A S.length c, .int .i64 (er : Int)]) rfl (by go_simp) ⟨_, _, rfl, g36⟩
    refine Obs.cons (fun u w hS hd => ?_) ?_
    · obtain ⟨A, c, d24, g24⟩ : (Know.sat (tupE S er) tupE_keep).ok (u 24) w := dep hd 12 rfl
      rw [d24]
      exact Gv.run (.slice A S.length c) rfl (by go_simp) ⟨_, _, rfl, g24⟩
    refine Obs.cons (fun u w hS hd => ?_) ?_
    · obtain ⟨A, c, d24, g24⟩ : (Know.sat (tupE S er) tupE_keep).ok (u 24) w := dep hd 12 rfl
      rw [d24]
      exact Gv.run (.int .i64 (er : Int)) rfl (by go_simp) rfl
    refine Obs.cons (fun u w hS hd => ?_) ?_
    · obtain ⟨A37, c37, d37, g37⟩ : (Know.byt S).ok (u 37) w := dep hd 13 rfl
      rw [d37]
      exact Gv.run (.slice A37 S.length c37) rfl (by go_simp) ⟨_, _, rfl, g37⟩
    exact Obs.nil
  intro u wz hS hd
  obtain ⟨A37, c37, d37, g37⟩ : (Know.byt S).ok (u 3) wz := hd 15 (by decide)
  have d38 : u 38 = .int .i64 (er : Int) := hd 14 (by decide)
  rw [d37, d38]
  clear hd d37 d38 KG KO0 KO1 KO2
  simp only [List.drop_succ_cons, List.drop_zero]
  obtain ⟨q0, q1, q2, q3⟩ := HB.out wz hS
  have k0 := (h0.keep hS).mono hS.size
  have k1 := (h1.keep hS).mono hS.size
  have k2 := (h2.keep hS).mono hS.size
  go_wp2_with fail
  go_at_call 18
  refine (KR.out _ _ _ _ _ _ _ k0 k1 k2).mono ?_
  rintro e v4 ⟨B4, d4, rfl, h4, hb⟩
  have h3 := (g37.keep hb).mono hb.size
  have hS4 := hS.trans (hb.mono hS.size)
  clear hb KR k0 k1 k2 q0 q1 q2 q3 g37 HB
  go_wp2_with (first | ((with_reducible refine conv_arm h3 ?_ ?_); rfl) | ((with_reducible refine conv_arm h4 ?_ ?_); rfl))
  go_at_call 9
  refine (KA.out _ (HG.out _ hS4)).mono ?_
  rintro e v5 ⟨rfl, hb⟩
  have hfin := hc.trans ((hS4.trans (hb.mono hS4.size)).mono hc.size)
  go_wp2_with fail
  go_ret
  exact ⟨rfl, hfin⟩
set_option maxHeartbeats 1600000 in
theorem derives_much {A0 A1 A2 : Option Addr} {n0 n1 n2 c0 c1 c2 : Nat} {i : Int}
    (ka : ∀ w, Glb w → Calls Tryd.prog 9 #[] w fun e w' => e = .returned (.bool true) ∧ Below w.heap.size w w') (hn : 4000 < n0 ∨ (n0 ≤ 4000 ∧ 4000 < n1) ∨ (n0 ≤ 4000 ∧ n1 ≤ 4000 ∧ 400 < n2)) (w : World) (hG : Glb w) :
    Calls Tryd.prog 6 #[.agg (keysV A0 n0 c0 A1 n1 c1 A2 n2 c2 i)] w fun e w' => e = .returned (.bool true) ∧ Below w.heap.size w w' := by
  have hc := (Below.refl w.heap.size w).alloc (Nat.le_refl _) (.cells (keysV A0 n0 c0 A1 n1 c1 A2 n2 c2 i) 32)
  have KA := Lib.hid (ka _ (hG.next hc))
  have HC := Lib.hid hc
  clear ka hc hG
  rcases hn with h | ⟨h, h'⟩ | ⟨h, h', h''⟩
  · have g1 : (4000 : Int) < (n0 : Int) := by omega
    go_enter Tryd.func6, Tryd.ntmps6
    go_wp2_with fail
    go_at_call 9
    refine KA.out.mono ?_
    rintro e v1 ⟨rfl, hc⟩
    have hfin := HC.out.trans (hc.mono HC.out.size)
    go_wp2_with fail
    go_ret
    exact ⟨rfl, hfin⟩
  · have g1 : ¬ (4000 : Int) < (n0 : Int) := by omega
    have g2 : (4000 : Int) < (n1 : Int) := by omega
    go_enter Tryd.func6, Tryd.ntmps6
    go_wp2_with fail
    go_at_call 9
    refine KA.out.mono ?_
    rintro e v1 ⟨rfl, hc⟩
    have hfin := HC.out.trans (hc.mono HC.out.size)
    go_wp2_with fail
    go_ret
    exact ⟨rfl, hfin⟩
  · have g1 : ¬ (4000 : Int) < (n0 : Int) := by omega
    have g2 : ¬ (4000 : Int) < (n1 : Int) := by omega
    have g3 : (400 : Int) < (n2 : Int) := by omega
    go_enter Tryd.func6, Tryd.ntmps6
    go_wp2_with fail
    go_at_call 9
    refine KA.out.mono ?_
    rintro e v1 ⟨rfl, hc⟩
    have hfin := HC.out.trans (hc.mono HC.out.size)
    go_wp2_with fail
    go_ret
    exact ⟨rfl, hfin⟩
theorem expands_much {A0 A1 : Option Addr} {n0 n1 c0 c1 : Nat} {i : Int}
    (ka : ∀ w, Glb w → Calls Tryd.prog 9 #[] w fun e w' => e = .returned (.bool true) ∧ Below w.heap.size w w') (hn : 4000 < n0 ∨ (n0 ≤ 4000 ∧ 400 < n1)) (w : World) (hG : Glb w) :
    Calls Tryd.prog 5 #[.slice A0 n0 c0, .slice A1 n1 c1, .int .i64 i] w fun e w' => e = .returned (.bool true) ∧ Below w.heap.size w w' := by
  have KA := Lib.hid (ka w hG)
  clear ka
  rcases hn with h | ⟨h, h'⟩
  · have g1 : (4000 : Int) < (n0 : Int) := by omega
    go_enter Tryd.func5, Tryd.ntmps5
    go_wp2_with fail
    go_at_call 9
    refine KA.out.mono ?_
    rintro e v1 ⟨rfl, hc⟩
    go_wp2_with fail
    go_ret
    exact ⟨rfl, hc⟩
  · have g1 : ¬ (4000 : Int) < (n0 : Int) := by omega
    have g2 : (400 : Int) < (n1 : Int) := by omega
    go_enter Tryd.func5, Tryd.ntmps5
    go_wp2_with fail
    go_at_call 9
    refine KA.out.mono ?_
    rintro e v1 ⟨rfl, hc⟩
    go_wp2_with fail
    go_ret
    exact ⟨rfl, hc⟩
end
end Go.Proofs.YtbofehdihflkiaaDoor
