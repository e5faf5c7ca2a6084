/-
  Layer 10's code: a state's block. By an AI agent.
-/
import Derived.Test.YthbogplajbldaaaY8
import Derived.Test.YthbogplajbldaaaY9
namespace Go.Proofs.Ythbogplajbldaaa
open Go Go.RowKit
set_option maxRecDepth 20000
theorem ty64b : ATy 49 64 := ⟨⟨_, Try.underlying49, rfl⟩, by kernel_rfl⟩
abbrev ZC64 : Array Value := #[.int .u8 0, .int .u8 0, .int .u8 0, .int .u8 0, .int .u8 0, .int .u8 0, .int .u8 0, .int .u8 0, .int .u8 0, .int .u8 0, .int .u8 0, .int .u8 0, .int .u8 0, .int .u8 0, .int .u8 0, .int .u8 0, .int .u8 0, .int .u8 0, .int .u8 0, .int .u8 0, .int .u8 0, .int .u8 0, .int .u8 0, .int .u8 0, .int .u8 0, .int .u8 0, .int .u8 0, .int .u8 0, .int .u8 0, .int .u8 0, .int .u8 0, .int .u8 0, .int .u8 0, .int .u8 0, .int .u8 0, .int .u8 0, .int .u8 0, .int .u8 0, .int .u8 0, .int .u8 0, .int .u8 0, .int .u8 0, .int .u8 0, .int .u8 0, .int .u8 0, .int .u8 0, .int .u8 0, .int .u8 0, .int .u8 0, .int .u8 0, .int .u8 0, .int .u8 0, .int .u8 0, .int .u8 0, .int .u8 0, .int .u8 0, .int .u8 0, .int .u8 0, .int .u8 0, .int .u8 0, .int .u8 0, .int .u8 0, .int .u8 0, .int .u8 0]
theorem obf_one (f : Nat → Nat) (k : Nat) : (obf f k).oneCell' = true := rfl
/-- Bytes of words, so many words of them; the others are nought. -/
def obp (F : Nat → Nat) (t j : Nat) : Value := if j < 4 * t then obf F j else .int .u8 0
theorem obp_zero (F : Nat → Nat) (j : Nat) : Value.int .u8 0 = obp F 0 j := by unfold obp; rw [if_neg (by omega)]
theorem obp_full (F : Nat → Nat) {t j : Nat} (h : j < 4 * t) : obp F t j = obf F j := by unfold obp; rw [if_pos h]
theorem obp_step (F : Nat → Nat) {t p : Nat} (hp : p = 4 * t) {y0 y1 y2 y3 : Value} (h0 : y0 = obf F (p + 0)) (h1 : y1 = obf F (p + 1)) (h2 : y2 = obf F (p + 2)) (h3 : y3 = obf F (p + 3)) (j : Nat) :
    (if j = p + 3 then y3 else if j = p + 2 then y2 else if j = p + 1 then y1 else if j = p then y0 else obp F t j) = obp F (t + 1) j := by
  unfold obp
  by_cases e3 : j = p + 3
  · rw [if_pos e3, if_pos (by omega), h3, e3]
  · rw [if_neg e3]
    by_cases e2 : j = p + 2
    · rw [if_pos e2, if_pos (by omega), h2, e2]
    · rw [if_neg e2]
      by_cases e1 : j = p + 1
      · rw [if_pos e1, if_pos (by omega), h1, e1]
      · rw [if_neg e1]
        by_cases e0 : j = p
        · rw [if_pos e0, if_pos (by omega), h0, e0, Nat.add_zero]
        · rw [if_neg e0]
          by_cases h : j < 4 * t
          · rw [if_pos h, if_pos (by omega)]
          · rw [if_neg h, if_neg (by omega)]
theorem ad32_comm (x y : Nat) : ad32 x y = ad32 y x := by unfold ad32; rw [Nat.add_comm]
theorem up1_lt {f : Nat → Nat} (hf : ∀ k, f k < 4294967296) {c : Nat} (hc : c < 4294967296) (p k : Nat) : up1 f p c k < 4294967296 := by
  unfold up1
  split
  · exact hc
  · exact hf k
/-- The words of a block. -/
def blF (s : Nat → Nat) (k : Nat) : Nat := ad32 (rndK s 10 k) (s k)
theorem dvd_nums {x : Nat} (_hx : x < 4294967296) : IntKind.u8.wrap (x : Int) = ((dvd8 x 0 % 256 : Nat) : Int) ∧ IntKind.u8.wrap ((x : Int) / 256) = ((dvd8 x 1 % 256 : Nat) : Int) ∧ IntKind.u8.wrap ((x : Int) / 65536) = ((dvd8 x 2 % 256 : Nat) : Int) ∧ IntKind.u8.wrap ((x : Int) / 16777216) = ((dvd8 x 3 % 256 : Nat) : Int) := by
  unfold dvd8
  refine ⟨?_, ?_, ?_, ?_⟩ <;> rw [IntKind.wrap_u8] <;> simp only [Nat.pow_zero, Nat.div_one, Nat.reducePow] <;> omega
section
attribute [local irreducible] wle stN wvf rndK ad32 dvd8 obf rl setA up1 obp blF
set_option maxHeartbeats 6400000 in
theorem cblock_any {f : Nat → Nat} (hf : ∀ k, f k < 4294967296) {ctr : Nat} (hctr : ctr < 4294967296) (w : World) :
    Calls Try.prog 19 #[av 16 (wvf f), .int .u32 (ctr : Int)] w fun e w' => e = .returned (av 64 (obf (blF (up1 f 12 ctr)))) ∧ Below w.heap.size w w' := by
  have oa := OwnF.lit (w := w) (B := w.heap.size) 46 (Nat.le_refl _) (rl 16 (wvf f)).toArray 16 (wvf f) (by decide) (by unfold rl; simp)
  have hc := (Below.refl w.heap.size w).alloc (Nat.le_refl _) (.cells (rl 16 (wvf f)).toArray 46)
  generalize he1 : (w.alloc (.cells (rl 16 (wvf f)).toArray 46)) = v1 at oa hc
  have hs1 : v1.heap.size = w.heap.size + 1 := by rw [← he1]; simp
  have oz := OwnF.lit (w := v1) (B := w.heap.size) 49 hc.size ZC64 64 (fun _ => .int .u8 0) (by decide) (by kernel_rfl)
  have h2 := (Below.refl v1.heap.size v1).alloc (Nat.le_refl _) (.cells ZC64 49)
  replace hc := hc.trans (h2.mono hc.size)
  replace oa := OwnF.keep oa h2
  generalize he2 : (v1.alloc (.cells ZC64 49)) = v2 at oa oz hc h2
  clear h2
  obtain ⟨gA, hgA⟩ : ∃ g, g = w.heap.size := ⟨_, rfl⟩
  obtain ⟨gR, hgR⟩ : ∃ g, g = w.heap.size + 1 := ⟨_, rfl⟩
  replace oa : OSt v2 w.heap.size gA f := by rw [hgA]; exact oa
  rw [hs1, ← hgR] at oz
  have hne := Lib.hid (show gA ≠ gR by omega)
  have hgB := Lib.hid (show w.heap.size ≤ gA by omega)
  have E1 := Lib.hid he1
  have E2 := Lib.hid he2
  have HGA := Lib.hid hgA
  have HGR := Lib.hid hgR
  clear he1 he2 hgA hgR hs1
  have oa2 := oa.ups 12 ctr
  have c12 := OwnF.cell oa (k := 12) (by decide)
  have f12 := OwnF.free oa 12
  have on := Only.setCell v2 ⟨gA, 12, none⟩ (.int .u32 (ctr : Int))
  have HS := Lib.hid (up1_lt hf hctr 12)
  obtain ⟨s, es⟩ : ∃ s, s = up1 f 12 ctr := ⟨_, rfl⟩
  rw [← es] at oa2 HS ⊢
  clear es hf hctr
  go_enter Try.func19, Try.ntmps19
  go_upto_region 1 with fail
  rw [E1.out, E2.out]
  rw [show (Value.pointer (some ⟨w.heap.size, 0, none⟩)) = .pointer (some ⟨gA, 0, none⟩) by rw [HGA.out], show (Value.pointer (some ⟨w.heap.size + 1, 0, none⟩)) = .pointer (some ⟨gR, 0, none⟩) by rw [HGR.out]]
  clear E1 E2 HGA HGR
  go_upto_region 2 with fail
  obtain ⟨v3, e3⟩ : ∃ v, v = v2.setCell ⟨gA, 12, none⟩ (.int .u32 (ctr : Int)) := ⟨_, rfl⟩
  rw [← e3] at oa2 on ⊢
  replace oz := OwnF.only oz on hne.out
  replace hc := hc.trans (on.below hgB.out)
  clear e3 on c12 f12 oa
  have hcl := Lib.hid (OwnF.cl oa2 (off := 0) (n := 16) (f' := wvf s) (by decide) fun k _ => by rw [Nat.zero_add])
  go_wp2_with ((with_reducible refine av_load hcl.out ty16s ?_ ?_); rfl)
  go_at_call 24
  refine (mix_any HS.out v3).mono ?_
  rintro e v4 ⟨rfl, h0⟩
  clear hcl
  replace oa2 := OwnF.keep oa2 h0
  replace oz := OwnF.keep oz h0
  replace hc := hc.trans (h0.mono hc.size)
  clear h0
  obtain ⟨m, em⟩ : ∃ m, m = rndK s 10 := ⟨_, rfl⟩
  rw [← em]
  have HM := Lib.hid (fun k => (show blF s k = ad32 (m k) (s k) by rw [em]; unfold blF; rfl))
  have hml : ∀ k, m k < 4294967296 := fun k => by rw [em]; exact rndK_lt HS.out 10 k
  have HML := Lib.hid hml
  clear em hml
  have o5 := OwnF.lit (w := v4) (B := w.heap.size) 46 hc.size ZC16 16 (fun _ => .int .u32 0) (by decide) (by kernel_rfl)
  have h2 := (Below.refl v4.heap.size v4).alloc (Nat.le_refl _) (.cells ZC16 46)
  have h3 := (av_only (v4.alloc (.cells ZC16 46)) v4.heap.size 0 16 (wvf m)).below (Nat.le_refl _)
  have h4 := Lib.hid (h2.trans h3)
  have ow := Lib.hid (av_all o5 (wvf m))
  clear h2 h3
  go_upto_region 3 with ((with_reducible refine av_store (off := 0) o5 ty16s (by decide) (wvf m) (fun k _ => wvf_one _ k) ?_ ?_ ?_); rfl; rfl)
  obtain ⟨v5, e5⟩ : ∃ v, v = setA (v4.alloc (.cells ZC16 46)) v4.heap.size 0 16 (wvf m) := ⟨_, rfl⟩
  have h4' := h4.out
  have om := ow.out
  rw [← e5] at h4' om ⊢
  obtain ⟨gM, eM⟩ : ∃ g, g = v4.heap.size := ⟨_, rfl⟩
  replace om : OSt v5 w.heap.size gM m := by rw [eM]; exact om
  rw [show (Value.pointer (some ⟨v4.heap.size, 0, none⟩)) = .pointer (some ⟨gM, 0, none⟩) by rw [eM]]
  replace oa2 := OwnF.keep oa2 h4'
  replace oz := OwnF.keep oz h4'
  replace hc := hc.trans (h4'.mono hc.size)
  clear h4 h4' ow eM e5 o5
  have o6 := OwnF.lit (w := v5) (B := w.heap.size) 49 hc.size ZC64 64 (fun _ => .int .u8 0) (by decide) (by kernel_rfl)
  have h2 := (Below.refl v5.heap.size v5).alloc (Nat.le_refl _) (.cells ZC64 49)
  have hne6 := Lib.hid (show v5.heap.size ≠ gA by have := OwnF.lt oa2; omega)
  have hne7 := Lib.hid (show v5.heap.size ≠ gR by have := OwnF.lt oz; omega)
  have hne8 := Lib.hid (show v5.heap.size ≠ gM by have := OwnF.lt om; omega)
  have hge := Lib.hid hc.size
  replace oa2 := OwnF.keep oa2 h2
  replace oz := OwnF.keep oz h2
  replace om := OwnF.keep om h2
  replace hc := hc.trans (h2.mono hc.size)
  clear h2
  go_upto_region 4 with fail
  obtain ⟨v6, e6⟩ : ∃ v, v = v5.alloc (.cells ZC64 49) := ⟨_, rfl⟩
  obtain ⟨gO, eO⟩ : ∃ g, g = v5.heap.size := ⟨_, rfl⟩
  rw [← e6] at oa2 oz om hc o6 ⊢
  rw [← eO] at o6 hne6 hne7 hne8 hge
  rw [show (Value.pointer (some ⟨v5.heap.size, 0, none⟩)) = .pointer (some ⟨gO, 0, none⟩) by rw [eO]]
  clear e6 eO
  have hOA := hne6.out
  have hOR := hne7.out
  have hOM := hne8.out
  have HNE := Lib.hid (And.intro hOA (And.intro hOR hOM))
  clear hne6 hne7 hne8 hOA hOR hOM hne
  replace o6 := OwnF.congr o6 fun j _ => obp_zero (blF s) j
  go_wp2_with fail
  go_loopw [14, 7, 8, 9] (fun i _ _ _ wr => ∃ t : Nat, t ≤ 16 ∧ i = .int .i64 (t : Int) ∧ OSt wr w.heap.size gA s ∧ OSt wr w.heap.size gM m ∧ OwnF wr w.heap.size 49 (some ⟨gR, 0, none⟩) 64 64 (fun _ => .int .u8 0) ∧ OwnF wr w.heap.size 49 (some ⟨gO, 0, none⟩) 64 64 (obp (blF s) t) ∧ Below w.heap.size w wr)
    (fun i _ _ _ _ => 16 - (intOf i).toNat)
  case atStart => exact ⟨0, by omega, rfl, oa2, om, oz, o6, hc⟩
  case round =>
    clear oa2 om oz o6 hc
    obtain ⟨t, ht, rfl, oa, om, oz, oo, hc⟩ := hrel
    by_cases hlt : t < 16
    · have g1 : (t : Int) < 16 := by omega
      have g2 : (0 : Int) ≤ (t : Int) := by omega
      have hsx := HS.out t
      have hmx := HML.out t
      have hF := HM.out t
      obtain ⟨x, ex⟩ : ∃ x, x = s t := ⟨_, rfl⟩
      obtain ⟨y, ey⟩ : ∃ y, y = m t := ⟨_, rfl⟩
      have ca : wr.cell? ⟨gA, t, none⟩ = some (.int .u32 (x : Int)) := by rw [ex]; have := OwnF.cell oa (k := t) (by omega); unfold wvf at this; exact this
      have cm : wr.cell? ⟨gM, t, none⟩ = some (.int .u32 (y : Int)) := by rw [ey]; have := OwnF.cell om (k := t) (by omega); unfold wvf at this; exact this
      obtain ⟨z, ez⟩ : ∃ z, z = blF s t := ⟨_, rfl⟩
      have e1 : IntKind.u32.wrap ((x : Int) + (y : Int)) = (z : Int) := by rw [ez, hF, ad32_comm, ← ex, ← ey, IntKind.wrap_u32]; unfold ad32; omega
      have hz : z < 4294967296 := by rw [ez, hF]; exact ad32_lt _ _
      obtain ⟨p, ep⟩ : ∃ p, p = 4 * t := ⟨_, rfl⟩
      obtain ⟨p1, ep1⟩ : ∃ q, q = p + 1 := ⟨_, rfl⟩
      obtain ⟨p2, ep2⟩ : ∃ q, q = p + 2 := ⟨_, rfl⟩
      obtain ⟨p3, ep3⟩ : ∃ q, q = p + 3 := ⟨_, rfl⟩
      have e2 : IntKind.i64.wrap ((t : Int) * 4) = (p : Int) := by rw [IntKind.wrap_i64]; omega
      have e3 : IntKind.i64.wrap ((p : Int) + 1) = (p1 : Int) := by rw [IntKind.wrap_i64]; omega
      have e4 : IntKind.i64.wrap ((p : Int) + 2) = (p2 : Int) := by rw [IntKind.wrap_i64]; omega
      have e5 : IntKind.i64.wrap ((p : Int) + 3) = (p3 : Int) := by rw [IntKind.wrap_i64]; omega
      obtain ⟨d0, d1, d2, d3⟩ := dvd_nums hz
      have b0 := byte_at (f := blF s) (k := 0) ep (by decide)
      have b1 := byte_at (f := blF s) (k := 1) ep (by decide)
      have b2 := byte_at (f := blF s) (k := 2) ep (by decide)
      have b3 := byte_at (f := blF s) (k := 3) ep (by decide)
      rw [← ez] at b0 b1 b2 b3
      generalize dvd8 z 0 % 256 = y0 at *
      generalize dvd8 z 1 % 256 = y1 at *
      generalize dvd8 z 2 % 256 = y2 at *
      generalize dvd8 z 3 % 256 = y3 at *
      have HB := Lib.hid (And.intro b0 (And.intro b1 (And.intro b2 b3)))
      have HK := Lib.hid (And.intro oa (And.intro om (And.intro oz (And.intro oo hc))))
      have HP := Lib.hid (And.intro ep (And.intro ep1 (And.intro ep2 ep3)))
      have i0 : (0 : Int) ≤ (p : Int) ∧ (p : Int) < 64 := by omega
      have i1 : (0 : Int) ≤ (p1 : Int) ∧ (p1 : Int) < 64 := by omega
      have i2 : (0 : Int) ≤ (p2 : Int) ∧ (p2 : Int) < 64 := by omega
      have i3 : (0 : Int) ≤ (p3 : Int) ∧ (p3 : Int) < 64 := by omega
      have HI := Lib.hid (And.intro i0 (And.intro i1 (And.intro i2 i3)))
      clear i0 i1 i2 i3
      clear oa om oz oo hc b0 b1 b2 b3 ep ep1 ep2 ep3 hz ez hF ex ey hsx hmx
      go_upto_region 7 with fail
      refine wp_region_still_tail 7 (by kernel_rfl) (by kernel_rfl) ?_
      simp only [List.take_succ_cons, List.take_zero, List.drop_succ_cons, List.drop_zero]
      repeat still_step
      refine wpStill_nil ?_
      change wpList _ _ _ _ _ wr.drew
      go_upto_region 9 with fail
      clear ca cm
      obtain ⟨oa, om, oz, oo, hc⟩ := HK.out
      obtain ⟨v7, ev7⟩ : ∃ v, v = wr.drew := ⟨_, rfl⟩
      replace oa : OSt v7 w.heap.size gA s := by rw [ev7]; exact OwnF.drew oa
      replace om : OSt v7 w.heap.size gM m := by rw [ev7]; exact OwnF.drew om
      replace oz : OwnF v7 w.heap.size 49 (some ⟨gR, 0, none⟩) 64 64 (fun _ => .int .u8 0) := by rw [ev7]; exact OwnF.drew oz
      replace oo : OwnF v7 w.heap.size 49 (some ⟨gO, 0, none⟩) 64 64 (obp (blF s) t) := by rw [ev7]; exact OwnF.drew oo
      replace hc : Below w.heap.size w v7 := by rw [ev7]; exact hc.drew
      rw [← ev7]
      clear ev7 HK
      obtain ⟨b0, b1, b2, b3⟩ := HB.out
      obtain ⟨ep, ep1, ep2, ep3⟩ := HP.out
      have hst := OwnF.congr (g := obp (blF s) (t + 1)) (OwnF.set_ (OwnF.set_ (OwnF.set_ (OwnF.set_ oo p (.int .u8 (y0 : Int))) p1 (.int .u8 (y1 : Int))) p2 (.int .u8 (y2 : Int))) p3 (.int .u8 (y3 : Int))) fun j _ => (by rw [ep1, ep2, ep3]; exact obp_step (blF s) ep b0 b1 b2 b3 j)
      have on := (((Only.setCell v7 ⟨gO, p, none⟩ (.int .u8 (y0 : Int))).trans (Only.setCell _ ⟨gO, p1, none⟩ (.int .u8 (y1 : Int)))).trans (Only.setCell _ ⟨gO, p2, none⟩ (.int .u8 (y2 : Int)))).trans (Only.setCell _ ⟨gO, p3, none⟩ (.int .u8 (y3 : Int)))
      obtain ⟨n1, n2, n3⟩ := HNE.out
      have HH := Lib.hid (And.intro (And.intro (OwnF.only oa on n1) (OwnF.only om on n3)) (And.intro (OwnF.only oz on n2) (And.intro hst (hc.trans (on.below hge.out)))))
      obtain ⟨⟨i00, i01⟩, ⟨i10, i11⟩, ⟨i20, i21⟩, i30, i31⟩ := HI.out
      have q0 := OwnF.cell oo (k := p) (by omega)
      have q1 := OwnF.cell oo (k := p1) (by omega)
      have q2 := OwnF.cell oo (k := p2) (by omega)
      have q3 := OwnF.cell oo (k := p3) (by omega)
      have k0 := OwnF.free oo p
      have k1 := OwnF.free oo p1
      have k2 := OwnF.free oo p2
      have k3 := OwnF.free oo p3
      have m1 : p ≠ p1 := by omega
      have m2 : p ≠ p2 := by omega
      have m3 : p ≠ p3 := by omega
      have m4 : p1 ≠ p2 := by omega
      have m5 : p1 ≠ p3 := by omega
      have m6 : p2 ≠ p3 := by omega
      clear hst on n1 n2 n3 oa om oz oo hc b0 b1 b2 b3 ep ep1 ep2 ep3 HI HB HP
      go_wp2_with fail
      obtain ⟨⟨oa, om⟩, oz, oo, hc⟩ := HH.out
      refine ⟨⟨t + 1, hlt, by rw [show ((t + 1 : Nat) : Int) = (t : Int) + 1 by omega], oa, om, oz, oo, hc⟩, ?_⟩
      simp only [intOf]
      omega
    · obtain rfl : t = 16 := by omega
      have g1 : ¬ (16 : Int) < 16 := by omega
      have hcl := Lib.hid (OwnF.cl oo (off := 0) (n := 64) (f' := obf (blF s)) (by decide) fun k hk => by rw [Nat.zero_add, obp_full _ hk])
      have hb := (av_only wr gR 0 64 (obf (blF s))).below (OwnF.ge oz)
      have HB := Lib.hid (hc.trans hb)
      have HR := Lib.hid (OwnF.cl (av_all oz (obf (blF s))) (off := 0) (n := 64) (f' := obf (blF s)) (by decide) fun k _ => by rw [Nat.zero_add])
      clear oa om oo hb hc
      simp only [Int.cast_ofNat_Int]
      go_wp2_with (first | ((with_reducible refine av_load hcl.out ty64b ?_ ?_); rfl) | ((with_reducible refine av_store (off := 0) oz ty64b (by decide) (obf (blF s)) (fun k _ => obf_one _ k) ?_ ?_ ?_); rfl; rfl))
      exact bodyPost_ret (av_res Try.results19 _ HR.out ty64b rfl) rfl ⟨rfl, HB.out⟩
end
end Go.Proofs.Ythbogplajbldaaa
