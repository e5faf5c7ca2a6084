/-
  Layer 10's code: begin. By an AI agent.
-/
import Derived.Test.YthbogplajbldaaaY10
namespace Go.Proofs.Ythbogplajbldaaa
open Go Go.RowKit
set_option maxRecDepth 20000
def bg0 (j : Nat) : Value := if j < 4 then .int .u32 ((cst j : Nat) : Int) else .int .u32 0
theorem bg0_one (j : Nat) : (bg0 j).oneCell' = true := by unfold bg0; split <;> rfl
abbrev BG0 : Array Value := #[.int .u32 1634760805, .int .u32 857760878, .int .u32 2036477234, .int .u32 1797285236, .int .u32 0, .int .u32 0, .int .u32 0, .int .u32 0, .int .u32 0, .int .u32 0, .int .u32 0, .int .u32 0, .int .u32 0, .int .u32 0, .int .u32 0, .int .u32 0]
theorem bg0_av : Value.agg BG0 = av 16 bg0 := by rfl
theorem built_bg : Try.prog.built 46 [(0, .int .u32 1634760805), (1, .int .u32 857760878), (2, .int .u32 2036477234), (3, .int .u32 1797285236)] = some BG0 := by kernel_rfl
theorem built_b0 : Try.prog.built 46 [] = some ZC16 := by kernel_rfl
theorem zc16_av : Value.agg ZC16 = av 16 (fun _ => .int .u32 0) := by rfl
section
variable {ops : Array Oper} {rest : List Oper} {a : Act} {w : World} {Q : Exit → Act → World → Prop} {dst : Option Nat} {tp : TypeId} {ps : String} {af : Array Edge}
theorem bg_build (h : wpList Try.prog ops Q rest (a.put dst (av 16 bg0)) w) : wpList Try.prog ops Q (⟨dst, .build 46 #[(0, .const (.int .u32 1634760805)), (1, .const (.int .u32 857760878)), (2, .const (.int .u32 2036477234)), (3, .const (.int .u32 1797285236))], tp, ps, af, none⟩ :: rest) a w := by
  have hb := run_build (P := Try.prog) w 46 #[(0, .int .u32 1634760805), (1, .int .u32 857760878), (2, .int .u32 2036477234), (3, .int .u32 1797285236)] _ built_bg
  rw [bg0_av] at hb
  refine wpList_plain rfl fun K hK => ?_
  unfold Oper.wp execOp
  simp only [List.map_toArray, List.map_cons, List.map_nil, Act.eval, Sem.run_bind, hb, Result.andThen_ok, Sem.run_pure]
  exact hK _ _ h
theorem b0_build (h : wpList Try.prog ops Q rest (a.put dst (av 16 (fun _ => .int .u32 0))) w) : wpList Try.prog ops Q (⟨dst, .build 46 #[], tp, ps, af, none⟩ :: rest) a w := by
  have hb := run_build (P := Try.prog) w 46 #[] _ built_b0
  rw [zc16_av] at hb
  refine wpList_plain rfl fun K hK => ?_
  unfold Oper.wp execOp
  simp only [List.map_toArray, List.map_nil, Sem.run_bind, hb, Result.andThen_ok, Sem.run_pure]
  exact hK _ _ h
end
section
attribute [local irreducible] wle stN rl setA bg0 wlv
set_option maxHeartbeats 3200000 in
theorem begin_bad {kl nl k0 k1 : Nat} (h : kl ≠ 32 ∨ nl ≠ 12) {A0 A1 : Option Addr} (w : World) :
    Calls Try.prog 18 #[.slice A0 kl k0, .slice A1 nl k1] w fun e w' => e = .returned (.tuple #[av 16 (fun _ => .int .u32 0), .int .i64 1]) ∧ Below w.heap.size w w' := by
  have oz := OwnF.lit (w := w) (B := w.heap.size) 46 (Nat.le_refl _) ZC16 16 (fun _ => .int .u32 0) (by decide) (by kernel_rfl)
  have hc := (Below.refl w.heap.size w).alloc (Nat.le_refl _) (.cells ZC16 46)
  obtain ⟨v1, e1⟩ : ∃ v, v = w.alloc (.cells ZC16 46) := ⟨_, rfl⟩
  obtain ⟨gR, eR⟩ : ∃ g, g = w.heap.size := ⟨_, rfl⟩
  rw [← e1] at oz hc
  replace oz : OwnF v1 w.heap.size 46 (some ⟨gR, 0, none⟩) 16 16 (fun _ => .int .u32 0) := by rw [eR]; exact oz
  have hb := (av_only v1 gR 0 16 (fun _ => .int .u32 0)).below (OwnF.ge oz)
  have HB := Lib.hid (hc.trans hb)
  have HR := Lib.hid (OwnF.cl (av_all oz (fun _ => .int .u32 0)) (off := 0) (n := 16) (f' := fun _ => .int .u32 0) (by decide) fun k _ => rfl)
  have E1 := Lib.hid e1
  have ER := Lib.hid eR
  clear e1 eR hb hc
  have hcond : ((kl : Int) != 32) = true ∨ (((kl : Int) != 32) = false ∧ ((nl : Int) != 12) = true) := by
    by_cases h1 : kl = 32
    · right; constructor <;> simp <;> omega
    · left; simp; omega
  clear h
  go_enter Try.func18, Try.ntmps18
  go_upto_region 1 with fail
  rw [← E1.out, show (Value.pointer (some ⟨w.heap.size, 0, none⟩)) = .pointer (some ⟨gR, 0, none⟩) by rw [ER.out]]
  clear E1 ER
  rcases hcond with g1 | ⟨g1, g2⟩
  · go_wp2_with (first | (with_reducible refine b0_build ?_) | ((with_reducible refine av_store (off := 0) oz ty16s (by decide) (fun _ => .int .u32 0) (fun k _ => rfl) ?_ ?_ ?_); rfl; rfl))
    exact bodyPost_ret (av_res2 Try.results18 _ HR.out ty16s rfl rfl) rfl ⟨rfl, HB.out⟩
  · go_wp2_with (first | (with_reducible refine b0_build ?_) | ((with_reducible refine av_store (off := 0) oz ty16s (by decide) (fun _ => .int .u32 0) (fun k _ => rfl) ?_ ?_ ?_); rfl; rfl))
    exact bodyPost_ret (av_res2 Try.results18 _ HR.out ty16s rfl rfl) rfl ⟨rfl, HB.out⟩
set_option maxHeartbeats 3200000 in
theorem begin_any {key nonce : List UInt8} (hk : key.length = 32) (hn : nonce.length = 12) {A0 A1 : Option Addr} {B k0 k1 : Nat} (w : World) (r0 : Rd w B A0 k0 key) (r1 : Rd w B A1 k1 nonce) (hB : B ≤ w.heap.size) :
    Calls Try.prog 18 #[.slice A0 32 k0, .slice A1 12 k1] w fun e w' => e = .returned (.tuple #[av 16 (wvf (stN key nonce 0)), .int .i64 0]) ∧ Below w.heap.size w w' := by
  have oz := OwnF.lit (w := w) (B := w.heap.size) 46 (Nat.le_refl _) ZC16 16 (fun _ => .int .u32 0) (by decide) (by kernel_rfl)
  have hc := (Below.refl w.heap.size w).alloc (Nat.le_refl _) (.cells ZC16 46)
  obtain ⟨v1, e1⟩ : ∃ v, v = w.alloc (.cells ZC16 46) := ⟨_, rfl⟩
  obtain ⟨gR, eR⟩ : ∃ g, g = w.heap.size := ⟨_, rfl⟩
  rw [← e1] at oz hc
  replace oz : OwnF v1 w.heap.size 46 (some ⟨gR, 0, none⟩) 16 16 (fun _ => .int .u32 0) := by rw [eR]; exact oz
  have E1 := Lib.hid e1
  have ER := Lib.hid eR
  clear e1 eR
  have o6 := OwnF.lit (w := v1) (B := w.heap.size) 46 hc.size ZC16 16 (fun _ => .int .u32 0) (by decide) (by kernel_rfl)
  have h2 := (Below.refl v1.heap.size v1).alloc (Nat.le_refl _) (.cells ZC16 46)
  have h3 := (av_only (v1.alloc (.cells ZC16 46)) v1.heap.size 0 16 bg0).below (Nat.le_refl _)
  have h4 := h2.trans h3
  have ow := av_all o6 bg0
  obtain ⟨v2, e2⟩ : ∃ v, v = setA (v1.alloc (.cells ZC16 46)) v1.heap.size 0 16 bg0 := ⟨_, rfl⟩
  obtain ⟨g, eg⟩ : ∃ g, g = v1.heap.size := ⟨_, rfl⟩
  rw [← e2] at ow h4
  rw [← eg] at ow
  have hgR := Lib.hid (show g ≠ gR by have := OwnF.lt oz; omega)
  have hBg := Lib.hid (show B ≤ g by have := hc.size; omega)
  have hwg := Lib.hid (show w.heap.size ≤ g by have := hc.size; omega)
  replace oz := OwnF.keep oz h4
  replace r0 := r0.keep ((hc.mono hB).trans (h4.mono (Nat.le_trans hB hc.size)))
  replace r1 := r1.keep ((hc.mono hB).trans (h4.mono (Nat.le_trans hB hc.size)))
  replace hc := hc.trans (h4.mono hc.size)
  have O6 := Lib.hid o6
  have E2 := Lib.hid e2
  have EG := Lib.hid eg
  clear h2 h3 h4 o6 e2 eg hB
  have d0 : ∀ ad, A0 = some ad → ad.block ≠ g := by
    intro ad e
    obtain ⟨b, o, e', hlt, _⟩ := r0.at_ (k := 0) (by omega)
    rw [e'] at e; cases e
    have := hBg.out
    show b ≠ g
    omega
  have d1 : ∀ ad, A1 = some ad → ad.block ≠ g := by
    intro ad e
    obtain ⟨b, o, e', hlt, _⟩ := r1.at_ (k := 0) (by omega)
    rw [e'] at e; cases e
    have := hBg.out
    show b ≠ g
    omega
  have K1 := fill_any (n := 8) (off := 4) (cap := 12) hk (by decide) (by decide) (by decide) v2 ow (fun j _ => by unfold bg0; rw [if_neg (by omega)]) r0 d0
  rw [hk] at K1
  have hF : ∀ j, j < 16 → (if 13 ≤ j ∧ j < 13 + 3 then wlv nonce (j - 13) else if 4 ≤ j ∧ j < 4 + 8 then wlv key (j - 4) else bg0 j) = wvf (stN key nonce 0) j := by
    intro j hj
    unfold wvf stN
    by_cases h4 : j < 4
    · rw [if_neg (by omega), if_neg (by omega), if_pos h4]; unfold bg0; rw [if_pos h4]
    · rw [if_neg h4]
      by_cases h12 : j < 12
      · rw [if_neg (by omega), if_pos (by omega), if_pos h12]; unfold wlv; rfl
      · rw [if_neg h12]
        by_cases e12 : j = 12
        · rw [if_neg (by omega), if_neg (by omega), if_pos e12]; unfold bg0; rw [if_neg h4]; rfl
        · rw [if_pos (by omega), if_neg e12]; unfold wlv; rfl
  have HF := Lib.hid hF
  have KF1 := Lib.hid K1
  have HN := Lib.hid hn
  have g1 : ((32 : Int) != 32) = false := by decide
  clear K1 hF hk hn r0 d0
  go_enter Try.func18, Try.ntmps18
  go_upto_region 1 with fail
  rw [← E1.out, show (Value.pointer (some ⟨w.heap.size, 0, none⟩)) = .pointer (some ⟨gR, 0, none⟩) by rw [ER.out]]
  clear E1 ER
  go_upto_region 4 with (first | (with_reducible refine bg_build ?_) | ((with_reducible refine av_store (off := 0) O6.out ty16s (by decide) bg0 (fun k _ => bg0_one k) ?_ ?_ ?_); rfl; rfl))
  rw [← E2.out, show (Value.pointer (some ⟨v1.heap.size, 0, none⟩)) = .pointer (some ⟨g, 0, none⟩) by rw [EG.out]]
  clear E2 EG O6
  go_wp2_with fail
  go_at_call 23
  refine KF1.out.mono ?_
  rintro e v3 ⟨rfl, ow3, on⟩
  replace oz := OwnF.only oz on hgR.out
  replace hc := hc.trans (on.below hwg.out)
  replace r1 := r1.keep (on.below hBg.out)
  clear on ow KF1
  have K2 := fill_any (n := 3) (off := 13) (cap := 3) HN.out (by decide) (by decide) (by decide) v3 ow3 (fun j hj => by rw [if_neg (by omega)]; unfold bg0; rw [if_neg (by omega)]) r1 d1
  rw [HN.out] at K2
  have KF2 := Lib.hid K2
  clear K2 ow3 d1 r1
  go_wp2_with fail
  go_at_call 23
  refine KF2.out.mono ?_
  rintro e v4 ⟨rfl, ow4, on⟩
  replace oz := OwnF.only oz on hgR.out
  replace hc := hc.trans (on.below hwg.out)
  have hcl := Lib.hid (OwnF.cl ow4 (off := 0) (n := 16) (f' := wvf (stN key nonce 0)) (by decide) fun k hk => by rw [Nat.zero_add]; exact HF.out k hk)
  have hb := (av_only v4 gR 0 16 (wvf (stN key nonce 0))).below (OwnF.ge oz)
  have HB := Lib.hid (hc.trans hb)
  have HR := Lib.hid (OwnF.cl (av_all oz (wvf (stN key nonce 0))) (off := 0) (n := 16) (f' := wvf (stN key nonce 0)) (by decide) fun k _ => by rw [Nat.zero_add])
  clear on KF2 ow4 hb hc HF
  go_wp2_with (first | ((with_reducible refine av_load hcl.out ty16s ?_ ?_); rfl) | ((with_reducible refine av_store (off := 0) oz ty16s (by decide) (wvf (stN key nonce 0)) (fun k _ => wvf_one _ k) ?_ ?_ ?_); rfl; rfl))
  exact bodyPost_ret (av_res2 Try.results18 _ HR.out ty16s rfl rfl) rfl ⟨rfl, HB.out⟩
end
end Go.Proofs.Ythbogplajbldaaa
