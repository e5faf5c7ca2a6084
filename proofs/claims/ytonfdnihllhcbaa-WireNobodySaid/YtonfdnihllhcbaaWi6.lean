/-
  The document's reader: Fixed, Text (layer 13). By an AI agent.
-/
import Derived.Test.YtonfdnihllhcbaaWi5
import Derived.Test.YtonfdnihllhcbaaPar
namespace Go.Proofs.Ytonfdnihllhcbaa
open Go Go.RowKit
set_option maxRecDepth 20000
theorem slice_op_hi0 {o : Oper} {a : Act} {w : World} {x hi : Operand} {A : Option Addr} {n c h : Nat} (ho : o.op = .slice 22 x none (some hi) none) (e1 : a.eval x = .slice A n c) (e2 : a.eval hi = .int .i64 (h : Int)) (h1 : h ≤ c) :
    (execOp a.eval o).run Try.prog w = .ok (.value (.slice (subA A c 0) h c)) w := by
  unfold execOp
  simp only [ho, e1, e2, Option.map_some, Option.map_none, Instr.sliceAt, Sem.run_bind, run_underlying Try.underlying22 w, slice_run_hi w h1, Result.andThen_ok, Sem.run_pure]
theorem Rd.cut0 {w : World} {B c n : Nat} {A : Option Addr} {bs : List UInt8} (h : Rd w B A c bs) (hn : n ≤ bs.length) : Rd w B (subA A c 0) c (bs.take n) := by
  have := h.sub_ (l := 0) (n := n) (by omega)
  rwa [List.drop_zero, Nat.sub_zero] at this
set_option maxHeartbeats 3200000 in
theorem rfixA_any {A : Option Addr} {B c : Nat} {bs : List UInt8} (e k : Int) (w : World) (hr : Rd w B A c bs) (hB : B ≤ w.heap.size) :
    Calls Try.prog 34 #[atV A bs.length c e, .int .i64 k] w fun x w' => ∃ A' c' A2 c2, x = .returned (.tuple #[atV A' (fixR bs e k).1.length c' (fixR bs e k).2.1, .slice A2 (fixR bs e k).2.2.length c2]) ∧ Rd w' B A' c' (fixR bs e k).1 ∧ Rd w' B A2 c2 (fixR bs e k).2.2 ∧ Below w.heap.size w w' := by
  have hnil : ∀ wz : World, Rd wz B none 0 [] := fun _ => ⟨Nat.le_refl _, fun _ => ⟨rfl, rfl⟩, fun h => absurd rfl h⟩
  by_cases he : e ≠ 0 ∨ k < 1
  case pos =>
    have hx : fixR bs e k = (bs, e, []) := by unfold fixR; rw [if_pos he]
    rw [hx]
    have HO := Lib.hid (at_two w A A bs.length c bs.length c e e)
    have HR := Lib.hid (hr.keep ((at_two w A A bs.length c bs.length c e e).2.mono hB))
    have hor : (e != 0) = true ∨ ((e != 0) = false ∧ k < 1) := by
      by_cases h : e = 0
      · right; simp [h]; omega
      · left; simp [h]
    clear he hr hx
    rcases hor with q1 | ⟨q1, q2⟩
    all_goals
      go_enter Try.func34, Try.ntmps34
      go_wp2_with fail
      exact bodyPost_ret (at_results2 Try.results34 _ HO.out.1 rfl rfl) rfl ⟨A, c, none, 0, rfl, HR.out, hnil _, HO.out.2⟩
  obtain ⟨he0, hk1⟩ : e = 0 ∧ ¬ k < 1 := by omega
  subst he0
  obtain ⟨n, en⟩ : ∃ n, n = bs.length := ⟨_, rfl⟩
  obtain ⟨m, rfl⟩ : ∃ m : Nat, k = (m : Int) := ⟨k.toNat, by omega⟩
  obtain ⟨v1, g, gz, e1, eg, ez, o1, oz, hgz, hc⟩ := at_both w A none n c 0 0 0 0
  have hr1 := hr.keep (hc.mono hB)
  have hcap := hr.cap
  rw [← en] at hcap ⊢
  have hf : fixR bs 0 (m : Int) = if (n : Int) < (m : Int) then (bs, 3, []) else (bs.drop m, 0, bs.take m) := by
    unfold fixR
    rw [if_neg (by omega), ← en, Int.toNat_natCast]
  obtain ⟨N, hN⟩ : ∃ N, N = fixR bs 0 (m : Int) := ⟨_, rfl⟩
  rw [← hN]
  rw [hf] at hN
  have HB := Lib.hid hB
  have HE := Lib.hid en
  clear hf hr hB he
  by_cases h1 : (n : Int) < (m : Int)
  case pos =>
    have HN := Lib.hid (show N = (bs, 3, []) by rw [hN, if_pos h1])
    have HF := Lib.hid (fun v => rfail_any A n c 0 3 v)
    clear hN en hcap
    go_enter Try.func34, Try.ntmps34
    go_wp2_with fail
    rw [← e1, ← ez, ← eg]
    clear e1 ez eg
    go_at_call 40
    refine (HF.out v1).mono ?_
    rintro z v3 ⟨rfl, h0⟩
    replace oz := oz.keep h0
    replace hr1 := hr1.keep (h0.mono (Nat.le_trans HB.out hc.size))
    replace hc := hc.trans (h0.mono hc.size)
    clear h0 o1 HF
    have z0 := oz.c0
    have z1 := oz.c1
    have f0 := oz.f0
    have f1 := oz.f1
    have o2 := oz.set_ A n c 3
    have hb2 := oz.below A n c 3
    have HO := Lib.hid (And.intro o2 (And.intro (hc.trans hb2) (hr1.keep (hb2.mono HB.out))))
    clear oz hr1 hc o2 hb2
    go_wp2_with fail
    refine bodyPost_ret (at_results2 Try.results34 _ HO.out.1 rfl rfl) rfl ?_
    rw [HN.out]
    exact ⟨A, c, none, 0, by rw [HE.out]; rfl, HO.out.2.2, hnil _, HO.out.2.1⟩
  case neg =>
    have hmn : m ≤ n := by omega
    have hmc : m ≤ c := by omega
    have hdl : (bs.drop m).length = n - m := by rw [List.length_drop, en]
    have htl : (bs.take m).length = m := by rw [List.length_take, ← en]; omega
    have HN := Lib.hid (show N = (bs.drop m, 0, bs.take m) by rw [hN, if_neg h1])
    have HL := Lib.hid (And.intro hmn (And.intro hmc (And.intro hdl htl)))
    have hd := hr1.drop_ (l := m) (by rw [← en]; exact hmn)
    have ht := hr1.cut0 (n := m) (by rw [← en]; exact hmn)
    obtain ⟨A2, eA2⟩ : ∃ A2, A2 = subA A c m := ⟨_, rfl⟩
    obtain ⟨A3, eA3⟩ : ∃ A3, A3 = subA A c 0 := ⟨_, rfl⟩
    rw [← eA2] at hd
    rw [← eA3] at ht
    have HA2 := Lib.hid eA2
    have HA3 := Lib.hid eA3
    have HD := Lib.hid (And.intro hd (And.intro ht hc))
    clear hN en hcap hmn hmc hdl htl hd ht eA2 eA3 hr1
    go_enter Try.func34, Try.ntmps34
    go_upto_region 5 with fail
    rw [← e1, ← ez, ← eg]
    clear e1 ez eg
    obtain ⟨hd, ht, hc⟩ := HD.out
    have hs1 := hc.size
    refine wp_region_par 10 8 [some 21, some 22, some 23, some 24, some 25, some 26, some 27, some 28, some 29, none] [9] [some (.pointer (some ⟨g, 0, none⟩)), some (.slice A n c), some (.int .i64 (m : Int)), some (.slice A2 (n - m) (c - m)), some (atV A2 (n - m) (c - m) 0), some (.pointer (some ⟨g, 0, none⟩)), some (.slice A n c), some (.int .i64 (m : Int)), some (.slice A3 m c), none]
      (fun L _ wz => OAt wz w.heap.size g A n c 0 ∧ (L 9 = false → OAt wz w.heap.size gz none 0 0 0) ∧ (L 9 = true → OAt wz w.heap.size gz A2 (n - m) (c - m) 0) ∧ Below w.heap.size v1 wz) (by kernel_rfl) (by kernel_rfl)
      (fun _ => ⟨o1, fun _ => oz, fun h => absurd h (by decide), (Below.refl _ _).drew⟩) (fun u => by simp only [List.filterMap_cons, List.filterMap_nil, puts, List.foldl_cons, List.foldl_nil]; go_simp; exact rfl) ?_ ?_
    · simp only [List.take_succ_cons, List.take_zero]
      refine Par.soft rfl rfl (.pointer (some ⟨g, 0, none⟩)) rfl (fun u w L V hT hh => ⟨rfl, by go_simp⟩) ?_
      refine Par.soft rfl rfl (.slice A n c) rfl (fun u w L V hT hh => ⟨rfl, by have d21 : u 21 = .pointer (some ⟨g, 0, none⟩) := hh.val 0 _ rfl rfl; rw [d21]; have k0 := hT.1.c0; go_simp⟩) ?_
      refine Par.soft rfl rfl (.int .i64 (m : Int)) rfl (fun u w L V hT hh => ⟨rfl, by go_simp⟩) ?_
      refine Par.soft rfl rfl (.slice A2 (n - m) (c - m)) rfl (fun u w L V hT hh => ⟨rfl, by have d22 : u 22 = .slice A n c := hh.val 1 _ rfl rfl; have d23 : u 23 = .int .i64 (m : Int) := hh.val 2 _ rfl rfl; rw [d22, d23, HA2.out]; exact slice_op_lo rfl rfl rfl HL.out.1⟩) ?_
      refine Par.soft rfl rfl (atV A2 (n - m) (c - m) 0) rfl (fun u w L V hT hh => ⟨rfl, by have d24 : u 24 = .slice A2 (n - m) (c - m) := hh.val 3 _ rfl rfl; rw [d24]; go_simp⟩) ?_
      refine Par.soft rfl rfl (.pointer (some ⟨g, 0, none⟩)) rfl (fun u w L V hT hh => ⟨rfl, by go_simp⟩) ?_
      refine Par.soft rfl rfl (.slice A n c) rfl (fun u w L V hT hh => ⟨rfl, by have d26 : u 26 = .pointer (some ⟨g, 0, none⟩) := hh.val 5 _ rfl rfl; rw [d26]; have k0 := hT.1.c0; go_simp⟩) ?_
      refine Par.soft rfl rfl (.int .i64 (m : Int)) rfl (fun u w L V hT hh => ⟨rfl, by go_simp⟩) ?_
      refine Par.soft rfl rfl (.slice A3 m c) rfl (fun u w L V hT hh => ⟨rfl, by have d27 : u 27 = .slice A n c := hh.val 6 _ rfl rfl; have d28 : u 28 = .int .i64 (m : Int) := hh.val 7 _ rfl rfl; rw [d27, d28, HA3.out]; exact slice_op_hi0 rfl rfl rfl HL.out.2.1⟩) ?_
      refine Par.hard rfl (fun u w' L V hT hh => ?_) Par.nil
      have d25 : u 25 = atV A2 (n - m) (c - m) 0 := hh.val 4 _ rfl rfl
      rw [d25]
      obtain ⟨q1, q2, _, q4⟩ := hT
      have oz := q2 (hh.not_ 9 rfl)
      have z0 := oz.c0
      have z1 := oz.c1
      have f0 := oz.f0
      have f1 := oz.f1
      refine StepP.store (setAt w' gz A2 (n - m) (c - m) 0) rfl rfl (by unfold setAt; go_simp) ⟨fun c hc => by simp at hc, OwnF.only q1 (setAt_only w' gz _ _ _ _) (by omega), fun h => absurd h (by simp [lset]), fun _ => oz.set_ _ _ _ _, q4.trans (oz.below _ _ _ _)⟩
    · rintro u v2 hv ⟨L, V, ⟨q1, _, q3, q4⟩, hl⟩
      have d29 : u 29 = .slice A3 m c := hv 8 _ (by decide) rfl
      have d25 : u 25 = atV A2 (n - m) (c - m) 0 := hv 4 _ (by decide) rfl
      rw [d29, d25]
      have oz2 := q3 (hl 9 (by decide) rfl).1
      have HO := Lib.hid (And.intro oz2 (And.intro (hc.trans q4) (And.intro (hd.keep (q4.mono HB.out)) (ht.keep (q4.mono HB.out)))))
      clear oz hc hd ht d25 d29 o1 HD q1 q3 q4 oz2 hl hv
      simp only [List.drop_succ_cons, List.drop_zero]
      go_wp2_with fail
      refine bodyPost_ret (at_results2 Try.results34 _ HO.out.1 rfl rfl) rfl ?_
      rw [HN.out]
      exact ⟨_, _, _, _, by rw [show ((bs.drop m, 0, bs.take m) : List UInt8 × Int × List UInt8).1.length = n - m from HL.out.2.2.1, show ((bs.drop m, 0, bs.take m) : List UInt8 × Int × List UInt8).2.2.length = m from HL.out.2.2.2]; rfl, HO.out.2.2.1, HO.out.2.2.2, HO.out.2.1⟩
end Go.Proofs.Ytonfdnihllhcbaa
