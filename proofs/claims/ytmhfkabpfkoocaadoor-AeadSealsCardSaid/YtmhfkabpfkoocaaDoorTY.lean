/-
  Layer 10's code: fill. By an AI agent. Layer 10's code: a state's block. By an AI agent. Layer 10's code: begin. By an AI agent. Layer 10's code: Block. By an AI agent.
-/
import Derived.Test.YtmhfkabpfkoocaaDoorY4
import Derived.Test.YtmhfkabpfkoocaaDoorY6
import Derived.Test.YtmhfkabpfkoocaaDoorAv
import Derived.Test.YtmhfkabpfkoocaaDoorY8
namespace Go.Proofs.YtmhfkabpfkoocaaDoor
open Go Go.RowKit
set_option maxRecDepth 20000
/-- Some bytes of a word, the lowest first. -/
def pw (bs : List UInt8) (p : Nat) : Nat → Nat
  | 0 => 0
  | m + 1 => pw bs p m + 256 ^ m * nth bs (p + m)
theorem pw_zero (bs : List UInt8) (p : Nat) : pw bs p 0 = 0 := rfl
theorem pw_succ (bs : List UInt8) (p m : Nat) : pw bs p (m + 1) = pw bs p m + 256 ^ m * nth bs (p + m) := rfl
theorem pw_lt (bs : List UInt8) (p : Nat) : ∀ m, pw bs p m < 256 ^ m
  | 0 => by rw [pw_zero]; decide
  | m + 1 => by
    have h1 := pw_lt bs p m
    have h2 := nth_lt bs (p + m)
    have h3 : 256 ^ m * nth bs (p + m) ≤ 256 ^ m * 255 := Nat.mul_le_mul_left _ (by omega)
    rw [pw_succ, Nat.pow_succ]
    omega
theorem pw_four (bs : List UInt8) (p : Nat) : pw bs p 4 = wle bs p := by
  unfold wle
  rw [pw_succ, pw_succ, pw_succ, pw_succ, pw_zero]
  simp only [Nat.pow_zero, Nat.one_mul, Nat.zero_add, Nat.pow_one, Nat.add_zero, Nat.reducePow]
theorem pw_or (bs : List UInt8) (p : Nat) {m x : Nat} (hm : m < 4) (hx : x = nth bs (p + m)) : bits .or .u32 ((pw bs p m : Nat) : Int) ((x * 2 ^ (8 * m) : Nat) : Int) = ((pw bs p (m + 1) : Nat) : Int) := by
  have h1 := pw_lt bs p m
  have h2 := nth_lt bs (p + m)
  have e1 : (2 : Nat) ^ (8 * m) = 256 ^ m := by rw [Nat.pow_mul]
  have h3 : (256 : Nat) ^ m ≤ 16777216 := Nat.le_trans (Nat.pow_le_pow_right (by decide) (show m ≤ 3 by omega)) (by decide)
  have h4 : 256 ^ m * nth bs (p + m) ≤ 16777216 * 255 := Nat.mul_le_mul h3 (by omega)
  rw [e1, hx, Nat.mul_comm, o32n _ _ (by omega) (by omega), pw_succ, Nat.or_comm]
  congr 1
  rw [← e1] at h1 ⊢
  rw [Nat.add_comm (pw bs p m), Nat.two_pow_add_eq_or_of_lt h1]
/-- A row of words into which some bytes have been put. -/
def pf (F : Nat → Value) (off n : Nat) (bs : List UInt8) (k j : Nat) : Value := if off ≤ j ∧ j < off + n then .int .u32 ((pw bs (4 * (j - off)) (min 4 (k - 4 * (j - off))) : Nat) : Int) else F j
theorem pf_zero {F : Nat → Value} {off n : Nat} {bs : List UInt8} (hz : ∀ j, j < n → F (off + j) = .int .u32 0) (j : Nat) : F j = pf F off n bs 0 j := by
  unfold pf
  by_cases h : off ≤ j ∧ j < off + n
  · rw [if_pos h, Nat.zero_sub, Nat.min_zero, pw_zero]
    have := hz (j - off) (by omega)
    rw [show off + (j - off) = j by omega] at this
    exact this
  · rw [if_neg h]
theorem pf_here {F : Nat → Value} {off n : Nat} {bs : List UInt8} {k q r : Nat} (hk : k = 4 * q + r) (hr : r < 4) (hq : q < n) : pf F off n bs k (off + q) = .int .u32 ((pw bs (4 * q) r : Nat) : Int) := by
  unfold pf
  rw [if_pos (by omega), show off + q - off = q by omega, show min 4 (k - 4 * q) = r by omega]
theorem pf_step {F : Nat → Value} {off n : Nat} {bs : List UInt8} {k q r : Nat} (hk : k = 4 * q + r) (hr : r < 4) (hq : q < n) (j : Nat) : (if j = off + q then Value.int .u32 ((pw bs (4 * q) (r + 1) : Nat) : Int) else pf F off n bs k j) = pf F off n bs (k + 1) j := by
  unfold pf
  by_cases e : j = off + q
  · subst e
    rw [if_pos rfl, if_pos (by omega), show off + q - off = q by omega, show min 4 (k + 1 - 4 * q) = r + 1 by omega]
  · rw [if_neg e]
    by_cases h : off ≤ j ∧ j < off + n
    · rw [if_pos h, if_pos h, show min 4 (k + 1 - 4 * (j - off)) = min 4 (k - 4 * (j - off)) by omega]
    · rw [if_neg h, if_neg h]
theorem pf_full {F : Nat → Value} {off n : Nat} {bs : List UInt8} (j : Nat) : pf F off n bs (4 * n) j = if off ≤ j ∧ j < off + n then wlv bs (j - off) else F j := by
  unfold pf wlv
  by_cases h : off ≤ j ∧ j < off + n
  · rw [if_pos h, if_pos h, show min 4 (4 * n - 4 * (j - off)) = 4 by omega, pw_four]
  · rw [if_neg h, if_neg h]
section
attribute [local irreducible] pw pf
set_option maxHeartbeats 1600000 in
theorem fill10_any {bs : List UInt8} {g off n cap N C B B0 c0 : Nat} {e0 : TypeId} {F : Nat → Value} {A0 : Option Addr} (hl : bs.length = 4 * n) (hn : n ≤ 1000) (hn0 : 0 < n) (ho : off + n ≤ N) (w : World) (ow : OwnF w B e0 (some ⟨g, 0, none⟩) C N F)
    (hz : ∀ j, j < n → F (off + j) = .int .u32 0) (hr : Rd w B0 A0 c0 bs) (hd : ∀ ad, A0 = some ad → ad.block ≠ g) :
    Calls Tryd.prog 41 #[.slice (some ⟨g, off, none⟩) n cap, .slice A0 bs.length c0] w fun e w' => e = .returned (.tuple #[]) ∧ OwnF w' B e0 (some ⟨g, 0, none⟩) C N (fun j => if off ≤ j ∧ j < off + n then wlv bs (j - off) else F j) ∧ Only g w w' := by
  obtain ⟨b1, o1, rfl, _, _⟩ := hr.at_ (k := 0) (by omega)
  have hb1 : b1 ≠ g := hd _ rfl
  have hcell : ∀ m, m < bs.length → ∀ wz, Only g w wz → wz.cell? ⟨b1, o1 + m, none⟩ = some (.int .u8 ((nth bs m : Nat) : Int)) := fun m hm wz hz => by
    obtain ⟨b2, o2, e2, _, c2⟩ := hr.at_ (k := m) (by omega)
    simp only [Option.some.injEq, Addr.mk.injEq] at e2
    obtain ⟨rfl, rfl, _⟩ := e2
    exact (World.cell?_of_block (a := ⟨b1, o1 + m, none⟩) (hz.block b1 hb1)).trans c2
  have HCE := Lib.hid hcell
  have HF := Lib.hid (pf_full (F := F) (off := off) (n := n) (bs := bs))
  obtain ⟨L, hL⟩ : ∃ L, L = bs.length := ⟨_, rfl⟩
  rw [← hL]
  have HL := Lib.hid (hL.trans hl)
  have HB := Lib.hid hL
  replace ow := OwnF.congr ow fun j _ => pf_zero (bs := bs) hz j
  clear hl hL hcell hr hd hb1 hz
  go_enter Tryd.func41, Tryd.ntmps41
  go_wp2_with fail
  go_loopw [7, 4] (fun i _ wr => ∃ k : Nat, k ≤ L ∧ i = .int .i64 (k : Int) ∧ OwnF wr B e0 (some ⟨g, 0, none⟩) C N (pf F off n bs k) ∧ Only g w wr)
    (fun i _ _ => L - (intOf i).toNat)
  case atStart => exact ⟨0, by omega, rfl, ow, Only.refl _ _⟩
  case round =>
    clear ow
    obtain ⟨k, hk, rfl, ow, hb⟩ := hrel
    by_cases hlt : k < L
    · have g1 : (k : Int) < (L : Int) := by omega
      have hLe := HL.out
      obtain ⟨q, hq⟩ : ∃ q, q = k / 4 := ⟨_, rfl⟩
      obtain ⟨r, hr⟩ : ∃ r, r = k % 4 := ⟨_, rfl⟩
      have e1 : (k : Int).tdiv 4 = (q : Int) := by rw [Int.tdiv_eq_ediv_of_nonneg (by omega)]; omega
      have e2 : (k : Int).tmod 4 = (r : Int) := by rw [Int.tmod_eq_emod_of_nonneg (by omega)]; omega
      have hkq : k = 4 * q + r := by omega
      have e8 : IntKind.i64.wrap (q : Int) = (q : Int) := by rw [IntKind.wrap_i64]; omega
      have hr4 : r < 4 := by omega
      have hqn : q < n := by omega
      have g2 : (0 : Int) ≤ (q : Int) := by omega
      have g3 : (q : Int) < (n : Int) := by omega
      have g4 : (0 : Int) ≤ (k : Int) := by omega
      have hL4 : (k : Int) ≤ 4000 := by omega
      have cc : wr.cell? ⟨g, off + q, none⟩ = some (.int .u32 ((pw bs (4 * q) r : Nat) : Int)) := by rw [OwnF.cell ow (k := off + q) (by omega), pf_here hkq hr4 hqn]
      have ff := OwnF.free ow (off + q)
      have c1 := HCE.out k (by rw [← HB.out]; exact hlt) wr hb
      obtain ⟨x, hx⟩ : ∃ x, x = nth bs k := ⟨_, rfl⟩
      have hx256 := nth_lt bs k
      rw [← hx] at c1 hx256
      have e3 : IntKind.u32.wrap (x : Int) = (x : Int) := by rw [IntKind.wrap_u32]; omega
      obtain ⟨s, hs⟩ : ∃ s, s = 8 * r := ⟨_, rfl⟩
      have e4 : IntKind.i64.wrap (8 * (r : Int)) = (s : Int) := by rw [IntKind.wrap_i64]; omega
      have e5 : (0 : Int) ≤ (s : Int) := by omega
      obtain ⟨y, hy⟩ : ∃ y, y = x * 2 ^ (8 * r) := ⟨_, rfl⟩
      have hy2 : y < 4294967296 := by
        have h3 : (2 : Nat) ^ (8 * r) ≤ 16777216 := Nat.le_trans (Nat.pow_le_pow_right (by decide) (show 8 * r ≤ 24 by omega)) (by decide)
        have h4 : x * 2 ^ (8 * r) ≤ 255 * 16777216 := Nat.mul_le_mul (by omega) h3
        omega
      have e6 : IntKind.u32.wrap ((x : Int) * 2 ^ min s 32) = (y : Int) := by
        rw [hs, Nat.min_eq_left (by omega)]
        have : (x : Int) * 2 ^ (8 * r) = ((x * 2 ^ (8 * r) : Nat) : Int) := by simp
        rw [this, ← hy, IntKind.wrap_u32]; omega
      have e7 := pw_or bs (4 * q) (m := r) (x := x) hr4 (by rw [hx, hkq])
      rw [← hy] at e7
      have hset := OwnF.set_ ow (off + q) (.int .u32 ((pw bs (4 * q) (r + 1) : Nat) : Int))
      have hcg := Lib.hid (OwnF.congr hset fun j _ => pf_step hkq hr4 hqn j)
      have ho2 := Lib.hid (hb.trans (Only.setCell wr ⟨g, off + q, none⟩ (.int .u32 ((pw bs (4 * q) (r + 1) : Nat) : Int))))
      generalize pw bs (4 * q) (r + 1) = z2 at *
      generalize pw bs (4 * q) r = z at *
      clear hq hr hkq hr4 hqn hx hs hy hy2 hx256 hset ow hb hLe
      go_upto_region 3 with fail
      refine wp_region_still_tail 16 (by kernel_rfl) (by kernel_rfl) ?_
      simp only [List.take_succ_cons, List.take_zero, List.drop_succ_cons, List.drop_zero]
      repeat still_step
      refine wpStill_nil ?_
      change wpList _ _ _ _ _ wr.drew
      go_wp2_with fail
      exact ⟨⟨k + 1, by omega, by go_num, OwnF.drew hcg.out, ⟨ho2.out.os, ho2.out.tape, ho2.out.output, ho2.out.size, ho2.out.block⟩⟩, by simp [intOf]; omega⟩
    · obtain rfl : k = L := by omega
      have g1 : ¬ (k : Int) < (k : Int) := by omega
      have he : OwnF wr B e0 (some ⟨g, 0, none⟩) C N (fun j => if off ≤ j ∧ j < off + n then wlv bs (j - off) else F j) := by
        rw [HL.out] at ow
        exact OwnF.congr ow fun j _ => HF.out j
      have HE := Lib.hid he
      clear ow he
      go_wp2_with fail
      exact bodyPost_end (v := .tuple #[]) (by simp [results, Tryd.results41, go_sem]) rfl ⟨rfl, HE.out, hb⟩
end
end Go.Proofs.YtmhfkabpfkoocaaDoor
namespace Go.Proofs.YtmhfkabpfkoocaaDoor
open Go Go.RowKit
set_option maxRecDepth 20000
theorem ty64b : ATy 46 64 := ⟨⟨_, Tryd.underlying46, rfl⟩, by kernel_rfl⟩
abbrev ZC64 : Array Value := #[.int .u8 0, .int .u8 0, .int .u8 0, .int .u8 0, .int .u8 0, .int .u8 0, .int .u8 0, .int .u8 0, .int .u8 0, .int .u8 0, .int .u8 0, .int .u8 0, .int .u8 0, .int .u8 0, .int .u8 0, .int .u8 0, .int .u8 0, .int .u8 0, .int .u8 0, .int .u8 0, .int .u8 0, .int .u8 0, .int .u8 0, .int .u8 0, .int .u8 0, .int .u8 0, .int .u8 0, .int .u8 0, .int .u8 0, .int .u8 0, .int .u8 0, .int .u8 0, .int .u8 0, .int .u8 0, .int .u8 0, .int .u8 0, .int .u8 0, .int .u8 0, .int .u8 0, .int .u8 0, .int .u8 0, .int .u8 0, .int .u8 0, .int .u8 0, .int .u8 0, .int .u8 0, .int .u8 0, .int .u8 0, .int .u8 0, .int .u8 0, .int .u8 0, .int .u8 0, .int .u8 0, .int .u8 0, .int .u8 0, .int .u8 0, .int .u8 0, .int .u8 0, .int .u8 0, .int .u8 0, .int .u8 0, .int .u8 0, .int .u8 0, .int .u8 0]
theorem obf_one (f : Nat → Nat) (k : Nat) : (obf f k).oneCell' = true := rfl
/-- Bytes of words, so many words of them; the others are nought. -/
def obp (F : Nat → Nat) (t j : Nat) : Value := if j < 4 * t then obf F j else .int .u8 0
theorem obp_zero (F : Nat → Nat) (j : Nat) : Value.int .u8 0 = obp F 0 j := by unfold obp; rw [if_neg (by omega)]
theorem obp_full (F : Nat → Nat) {t j : Nat} (h : j < 4 * t) : obp F t j = obf F j := by unfold obp; rw [if_pos h]
theorem obp_step (F : Nat → Nat) {t p : Nat} (hp : p = 4 * t) {y0 y1 y2 y3 : Value} (h0 : y0 = obf F (p + 0)) (h1 : y1 = obf F (p + 1)) (h2 : y2 = obf F (p + 2)) (h3 : y3 = obf F (p + 3)) (j : Nat) :
    (if j = p + 3 then y3 else if j = p + 2 then y2 else if j = p + 1 then y1 else if j = p then y0 else obp F t j) = obp F (t + 1) j := by
  unfold obp
  by_cases e3 : j = p + 3
  · rw [if_pos e3, if_pos (by omega), h3, e3]
  · rw [if_neg e3]
    by_cases e2 : j = p + 2
    · rw [if_pos e2, if_pos (by omega), h2, e2]
    · rw [if_neg e2]
      by_cases e1 : j = p + 1
      · rw [if_pos e1, if_pos (by omega), h1, e1]
      · rw [if_neg e1]
        by_cases e0 : j = p
        · rw [if_pos e0, if_pos (by omega), h0, e0, Nat.add_zero]
        · rw [if_neg e0]
          by_cases h : j < 4 * t
          · rw [if_pos h, if_pos (by omega)]
          · rw [if_neg h, if_neg (by omega)]
theorem ad32_comm (x y : Nat) : ad32 x y = ad32 y x := by unfold ad32; rw [Nat.add_comm]
theorem up1_lt {f : Nat → Nat} (hf : ∀ k, f k < 4294967296) {c : Nat} (hc : c < 4294967296) (p k : Nat) : up1 f p c k < 4294967296 := by
  unfold up1
  split
  · exact hc
  · exact hf k
/-- The words of a block. -/
def blF (s : Nat → Nat) (k : Nat) : Nat := ad32 (rndK s 10 k) (s k)
theorem dvd_nums {x : Nat} (_hx : x < 4294967296) : IntKind.u8.wrap (x : Int) = ((dvd8 x 0 % 256 : Nat) : Int) ∧ IntKind.u8.wrap ((x : Int) / 256) = ((dvd8 x 1 % 256 : Nat) : Int) ∧ IntKind.u8.wrap ((x : Int) / 65536) = ((dvd8 x 2 % 256 : Nat) : Int) ∧ IntKind.u8.wrap ((x : Int) / 16777216) = ((dvd8 x 3 % 256 : Nat) : Int) := by
  unfold dvd8
  refine ⟨?_, ?_, ?_, ?_⟩ <;> rw [IntKind.wrap_u8] <;> simp only [Nat.pow_zero, Nat.div_one, Nat.reducePow] <;> omega
section
attribute [local irreducible] wle stN wvf rndK ad32 dvd8 obf rl setA up1 obp blF
set_option maxHeartbeats 6400000 in
theorem cblock_any {f : Nat → Nat} (hf : ∀ k, f k < 4294967296) {ctr : Nat} (hctr : ctr < 4294967296) (w : World) :
    Calls Tryd.prog 27 #[av 16 (wvf f), .int .u32 (ctr : Int)] w fun e w' => e = .returned (av 64 (obf (blF (up1 f 12 ctr)))) ∧ Below w.heap.size w w' := by
  have oa := OwnF.lit (w := w) (B := w.heap.size) 43 (Nat.le_refl _) (rl 16 (wvf f)).toArray 16 (wvf f) (by decide) (by unfold rl; simp)
  have hc := (Below.refl w.heap.size w).alloc (Nat.le_refl _) (.cells (rl 16 (wvf f)).toArray 43)
  generalize he1 : (w.alloc (.cells (rl 16 (wvf f)).toArray 43)) = v1 at oa hc
  have hs1 : v1.heap.size = w.heap.size + 1 := by rw [← he1]; simp
  have oz := OwnF.lit (w := v1) (B := w.heap.size) 46 hc.size ZC64 64 (fun _ => .int .u8 0) (by decide) (by kernel_rfl)
  have h2 := (Below.refl v1.heap.size v1).alloc (Nat.le_refl _) (.cells ZC64 46)
  replace hc := hc.trans (h2.mono hc.size)
  replace oa := OwnF.keep oa h2
  generalize he2 : (v1.alloc (.cells ZC64 46)) = v2 at oa oz hc h2
  clear h2
  obtain ⟨gA, hgA⟩ : ∃ g, g = w.heap.size := ⟨_, rfl⟩
  obtain ⟨gR, hgR⟩ : ∃ g, g = w.heap.size + 1 := ⟨_, rfl⟩
  replace oa : OSt v2 w.heap.size gA f := by rw [hgA]; exact oa
  rw [hs1, ← hgR] at oz
  have hne := Lib.hid (show gA ≠ gR by omega)
  have hgB := Lib.hid (show w.heap.size ≤ gA by omega)
  have E1 := Lib.hid he1
  have E2 := Lib.hid he2
  have HGA := Lib.hid hgA
  have HGR := Lib.hid hgR
  clear he1 he2 hgA hgR hs1
  have oa2 := oa.ups 12 ctr
  have c12 := OwnF.cell oa (k := 12) (by decide)
  have f12 := OwnF.free oa 12
  have on := Only.setCell v2 ⟨gA, 12, none⟩ (.int .u32 (ctr : Int))
  have HS := Lib.hid (up1_lt hf hctr 12)
  obtain ⟨s, es⟩ : ∃ s, s = up1 f 12 ctr := ⟨_, rfl⟩
  rw [← es] at oa2 HS ⊢
  clear es hf hctr
  go_enter Tryd.func27, Tryd.ntmps27
  go_upto_region 1 with fail
  rw [E1.out, E2.out]
  rw [show (Value.pointer (some ⟨w.heap.size, 0, none⟩)) = .pointer (some ⟨gA, 0, none⟩) by rw [HGA.out], show (Value.pointer (some ⟨w.heap.size + 1, 0, none⟩)) = .pointer (some ⟨gR, 0, none⟩) by rw [HGR.out]]
  clear E1 E2 HGA HGR
  go_upto_region 2 with fail
  obtain ⟨v3, e3⟩ : ∃ v, v = v2.setCell ⟨gA, 12, none⟩ (.int .u32 (ctr : Int)) := ⟨_, rfl⟩
  rw [← e3] at oa2 on ⊢
  replace oz := OwnF.only oz on hne.out
  replace hc := hc.trans (on.below hgB.out)
  clear e3 on c12 f12 oa
  have hcl := Lib.hid (OwnF.cl oa2 (off := 0) (n := 16) (f' := wvf s) (by decide) fun k _ => by rw [Nat.zero_add])
  go_wp2_with ((with_reducible refine av_load hcl.out ty16s ?_ ?_); rfl)
  go_at_call 42
  refine (mix_any HS.out v3).mono ?_
  rintro e v4 ⟨rfl, h0⟩
  clear hcl
  replace oa2 := OwnF.keep oa2 h0
  replace oz := OwnF.keep oz h0
  replace hc := hc.trans (h0.mono hc.size)
  clear h0
  obtain ⟨m, em⟩ : ∃ m, m = rndK s 10 := ⟨_, rfl⟩
  rw [← em]
  have HM := Lib.hid (fun k => (show blF s k = ad32 (m k) (s k) by rw [em]; unfold blF; rfl))
  have hml : ∀ k, m k < 4294967296 := fun k => by rw [em]; exact rndK_lt HS.out 10 k
  have HML := Lib.hid hml
  clear em hml
  have o5 := OwnF.lit (w := v4) (B := w.heap.size) 43 hc.size ZC16 16 (fun _ => .int .u32 0) (by decide) (by kernel_rfl)
  have h2 := (Below.refl v4.heap.size v4).alloc (Nat.le_refl _) (.cells ZC16 43)
  have h3 := (av_only (v4.alloc (.cells ZC16 43)) v4.heap.size 0 16 (wvf m)).below (Nat.le_refl _)
  have h4 := Lib.hid (h2.trans h3)
  have ow := Lib.hid (av_all o5 (wvf m))
  clear h2 h3
  go_upto_region 3 with ((with_reducible refine av_store (off := 0) o5 ty16s (by decide) (wvf m) (fun k _ => wvf_one _ k) ?_ ?_ ?_); rfl; rfl)
  obtain ⟨v5, e5⟩ : ∃ v, v = setA (v4.alloc (.cells ZC16 43)) v4.heap.size 0 16 (wvf m) := ⟨_, rfl⟩
  have h4' := h4.out
  have om := ow.out
  rw [← e5] at h4' om ⊢
  obtain ⟨gM, eM⟩ : ∃ g, g = v4.heap.size := ⟨_, rfl⟩
  replace om : OSt v5 w.heap.size gM m := by rw [eM]; exact om
  rw [show (Value.pointer (some ⟨v4.heap.size, 0, none⟩)) = .pointer (some ⟨gM, 0, none⟩) by rw [eM]]
  replace oa2 := OwnF.keep oa2 h4'
  replace oz := OwnF.keep oz h4'
  replace hc := hc.trans (h4'.mono hc.size)
  clear h4 h4' ow eM e5 o5
  have o6 := OwnF.lit (w := v5) (B := w.heap.size) 46 hc.size ZC64 64 (fun _ => .int .u8 0) (by decide) (by kernel_rfl)
  have h2 := (Below.refl v5.heap.size v5).alloc (Nat.le_refl _) (.cells ZC64 46)
  have hne6 := Lib.hid (show v5.heap.size ≠ gA by have := OwnF.lt oa2; omega)
  have hne7 := Lib.hid (show v5.heap.size ≠ gR by have := OwnF.lt oz; omega)
  have hne8 := Lib.hid (show v5.heap.size ≠ gM by have := OwnF.lt om; omega)
  have hge := Lib.hid hc.size
  replace oa2 := OwnF.keep oa2 h2
  replace oz := OwnF.keep oz h2
  replace om := OwnF.keep om h2
  replace hc := hc.trans (h2.mono hc.size)
  clear h2
  go_upto_region 4 with fail
  obtain ⟨v6, e6⟩ : ∃ v, v = v5.alloc (.cells ZC64 46) := ⟨_, rfl⟩
  obtain ⟨gO, eO⟩ : ∃ g, g = v5.heap.size := ⟨_, rfl⟩
  rw [← e6] at oa2 oz om hc o6 ⊢
  rw [← eO] at o6 hne6 hne7 hne8 hge
  rw [show (Value.pointer (some ⟨v5.heap.size, 0, none⟩)) = .pointer (some ⟨gO, 0, none⟩) by rw [eO]]
  clear e6 eO
  have hOA := hne6.out
  have hOR := hne7.out
  have hOM := hne8.out
  have HNE := Lib.hid (And.intro hOA (And.intro hOR hOM))
  clear hne6 hne7 hne8 hOA hOR hOM hne
  replace o6 := OwnF.congr o6 fun j _ => obp_zero (blF s) j
  go_wp2_with fail
  go_loopw [14, 7, 8, 9] (fun i _ _ _ wr => ∃ t : Nat, t ≤ 16 ∧ i = .int .i64 (t : Int) ∧ OSt wr w.heap.size gA s ∧ OSt wr w.heap.size gM m ∧ OwnF wr w.heap.size 46 (some ⟨gR, 0, none⟩) 64 64 (fun _ => .int .u8 0) ∧ OwnF wr w.heap.size 46 (some ⟨gO, 0, none⟩) 64 64 (obp (blF s) t) ∧ Below w.heap.size w wr)
    (fun i _ _ _ _ => 16 - (intOf i).toNat)
  case atStart => exact ⟨0, by omega, rfl, oa2, om, oz, o6, hc⟩
  case round =>
    clear oa2 om oz o6 hc
    obtain ⟨t, ht, rfl, oa, om, oz, oo, hc⟩ := hrel
    by_cases hlt : t < 16
    · have g1 : (t : Int) < 16 := by omega
      have g2 : (0 : Int) ≤ (t : Int) := by omega
      have hsx := HS.out t
      have hmx := HML.out t
      have hF := HM.out t
      obtain ⟨x, ex⟩ : ∃ x, x = s t := ⟨_, rfl⟩
      obtain ⟨y, ey⟩ : ∃ y, y = m t := ⟨_, rfl⟩
      have ca : wr.cell? ⟨gA, t, none⟩ = some (.int .u32 (x : Int)) := by rw [ex]; have := OwnF.cell oa (k := t) (by omega); unfold wvf at this; exact this
      have cm : wr.cell? ⟨gM, t, none⟩ = some (.int .u32 (y : Int)) := by rw [ey]; have := OwnF.cell om (k := t) (by omega); unfold wvf at this; exact this
      obtain ⟨z, ez⟩ : ∃ z, z = blF s t := ⟨_, rfl⟩
      have e1 : IntKind.u32.wrap ((x : Int) + (y : Int)) = (z : Int) := by rw [ez, hF, ad32_comm, ← ex, ← ey, IntKind.wrap_u32]; unfold ad32; omega
      have hz : z < 4294967296 := by rw [ez, hF]; exact ad32_lt _ _
      obtain ⟨p, ep⟩ : ∃ p, p = 4 * t := ⟨_, rfl⟩
      obtain ⟨p1, ep1⟩ : ∃ q, q = p + 1 := ⟨_, rfl⟩
      obtain ⟨p2, ep2⟩ : ∃ q, q = p + 2 := ⟨_, rfl⟩
      obtain ⟨p3, ep3⟩ : ∃ q, q = p + 3 := ⟨_, rfl⟩
      have e2 : IntKind.i64.wrap ((t : Int) * 4) = (p : Int) := by rw [IntKind.wrap_i64]; omega
      have e3 : IntKind.i64.wrap ((p : Int) + 1) = (p1 : Int) := by rw [IntKind.wrap_i64]; omega
      have e4 : IntKind.i64.wrap ((p : Int) + 2) = (p2 : Int) := by rw [IntKind.wrap_i64]; omega
      have e5 : IntKind.i64.wrap ((p : Int) + 3) = (p3 : Int) := by rw [IntKind.wrap_i64]; omega
      obtain ⟨d0, d1, d2, d3⟩ := dvd_nums hz
      have b0 := byte_at (f := blF s) (k := 0) ep (by decide)
      have b1 := byte_at (f := blF s) (k := 1) ep (by decide)
      have b2 := byte_at (f := blF s) (k := 2) ep (by decide)
      have b3 := byte_at (f := blF s) (k := 3) ep (by decide)
      rw [← ez] at b0 b1 b2 b3
      generalize dvd8 z 0 % 256 = y0 at *
      generalize dvd8 z 1 % 256 = y1 at *
      generalize dvd8 z 2 % 256 = y2 at *
      generalize dvd8 z 3 % 256 = y3 at *
      have HB := Lib.hid (And.intro b0 (And.intro b1 (And.intro b2 b3)))
      have HK := Lib.hid (And.intro oa (And.intro om (And.intro oz (And.intro oo hc))))
      have HP := Lib.hid (And.intro ep (And.intro ep1 (And.intro ep2 ep3)))
      have i0 : (0 : Int) ≤ (p : Int) ∧ (p : Int) < 64 := by omega
      have i1 : (0 : Int) ≤ (p1 : Int) ∧ (p1 : Int) < 64 := by omega
      have i2 : (0 : Int) ≤ (p2 : Int) ∧ (p2 : Int) < 64 := by omega
      have i3 : (0 : Int) ≤ (p3 : Int) ∧ (p3 : Int) < 64 := by omega
      have HI := Lib.hid (And.intro i0 (And.intro i1 (And.intro i2 i3)))
      clear i0 i1 i2 i3
      clear oa om oz oo hc b0 b1 b2 b3 ep ep1 ep2 ep3 hz ez hF ex ey hsx hmx
      go_upto_region 7 with fail
      refine wp_region_still_tail 7 (by kernel_rfl) (by kernel_rfl) ?_
      simp only [List.take_succ_cons, List.take_zero, List.drop_succ_cons, List.drop_zero]
      repeat still_step
      refine wpStill_nil ?_
      change wpList _ _ _ _ _ wr.drew
      go_upto_region 9 with fail
      clear ca cm
      obtain ⟨oa, om, oz, oo, hc⟩ := HK.out
      obtain ⟨v7, ev7⟩ : ∃ v, v = wr.drew := ⟨_, rfl⟩
      replace oa : OSt v7 w.heap.size gA s := by rw [ev7]; exact OwnF.drew oa
      replace om : OSt v7 w.heap.size gM m := by rw [ev7]; exact OwnF.drew om
      replace oz : OwnF v7 w.heap.size 46 (some ⟨gR, 0, none⟩) 64 64 (fun _ => .int .u8 0) := by rw [ev7]; exact OwnF.drew oz
      replace oo : OwnF v7 w.heap.size 46 (some ⟨gO, 0, none⟩) 64 64 (obp (blF s) t) := by rw [ev7]; exact OwnF.drew oo
      replace hc : Below w.heap.size w v7 := by rw [ev7]; exact hc.drew
      rw [← ev7]
      clear ev7 HK
      obtain ⟨b0, b1, b2, b3⟩ := HB.out
      obtain ⟨ep, ep1, ep2, ep3⟩ := HP.out
      have hst := OwnF.congr (g := obp (blF s) (t + 1)) (OwnF.set_ (OwnF.set_ (OwnF.set_ (OwnF.set_ oo p (.int .u8 (y0 : Int))) p1 (.int .u8 (y1 : Int))) p2 (.int .u8 (y2 : Int))) p3 (.int .u8 (y3 : Int))) fun j _ => (by rw [ep1, ep2, ep3]; exact obp_step (blF s) ep b0 b1 b2 b3 j)
      have on := (((Only.setCell v7 ⟨gO, p, none⟩ (.int .u8 (y0 : Int))).trans (Only.setCell _ ⟨gO, p1, none⟩ (.int .u8 (y1 : Int)))).trans (Only.setCell _ ⟨gO, p2, none⟩ (.int .u8 (y2 : Int)))).trans (Only.setCell _ ⟨gO, p3, none⟩ (.int .u8 (y3 : Int)))
      obtain ⟨n1, n2, n3⟩ := HNE.out
      have HH := Lib.hid (And.intro (And.intro (OwnF.only oa on n1) (OwnF.only om on n3)) (And.intro (OwnF.only oz on n2) (And.intro hst (hc.trans (on.below hge.out)))))
      obtain ⟨⟨i00, i01⟩, ⟨i10, i11⟩, ⟨i20, i21⟩, i30, i31⟩ := HI.out
      have q0 := OwnF.cell oo (k := p) (by omega)
      have q1 := OwnF.cell oo (k := p1) (by omega)
      have q2 := OwnF.cell oo (k := p2) (by omega)
      have q3 := OwnF.cell oo (k := p3) (by omega)
      have k0 := OwnF.free oo p
      have k1 := OwnF.free oo p1
      have k2 := OwnF.free oo p2
      have k3 := OwnF.free oo p3
      have m1 : p ≠ p1 := by omega
      have m2 : p ≠ p2 := by omega
      have m3 : p ≠ p3 := by omega
      have m4 : p1 ≠ p2 := by omega
      have m5 : p1 ≠ p3 := by omega
      have m6 : p2 ≠ p3 := by omega
      clear hst on n1 n2 n3 oa om oz oo hc b0 b1 b2 b3 ep ep1 ep2 ep3 HI HB HP
      go_wp2_with fail
      obtain ⟨⟨oa, om⟩, oz, oo, hc⟩ := HH.out
      refine ⟨⟨t + 1, hlt, by rw [show ((t + 1 : Nat) : Int) = (t : Int) + 1 by omega], oa, om, oz, oo, hc⟩, ?_⟩
      simp only [intOf]
      omega
    · obtain rfl : t = 16 := by omega
      have g1 : ¬ (16 : Int) < 16 := by omega
      have hcl := Lib.hid (OwnF.cl oo (off := 0) (n := 64) (f' := obf (blF s)) (by decide) fun k hk => by rw [Nat.zero_add, obp_full _ hk])
      have hb := (av_only wr gR 0 64 (obf (blF s))).below (OwnF.ge oz)
      have HB := Lib.hid (hc.trans hb)
      have HR := Lib.hid (OwnF.cl (av_all oz (obf (blF s))) (off := 0) (n := 64) (f' := obf (blF s)) (by decide) fun k _ => by rw [Nat.zero_add])
      clear oa om oo hb hc
      simp only [Int.cast_ofNat_Int]
      go_wp2_with (first | ((with_reducible refine av_load hcl.out ty64b ?_ ?_); rfl) | ((with_reducible refine av_store (off := 0) oz ty64b (by decide) (obf (blF s)) (fun k _ => obf_one _ k) ?_ ?_ ?_); rfl; rfl))
      exact bodyPost_ret (av_res Tryd.results27 _ HR.out ty64b rfl) rfl ⟨rfl, HB.out⟩
end
end Go.Proofs.YtmhfkabpfkoocaaDoor
namespace Go.Proofs.YtmhfkabpfkoocaaDoor
open Go Go.RowKit
set_option maxRecDepth 20000
def bg0 (j : Nat) : Value := if j < 4 then .int .u32 ((cst j : Nat) : Int) else .int .u32 0
theorem bg0_one (j : Nat) : (bg0 j).oneCell' = true := by unfold bg0; split <;> rfl
abbrev BG0 : Array Value := #[.int .u32 1634760805, .int .u32 857760878, .int .u32 2036477234, .int .u32 1797285236, .int .u32 0, .int .u32 0, .int .u32 0, .int .u32 0, .int .u32 0, .int .u32 0, .int .u32 0, .int .u32 0, .int .u32 0, .int .u32 0, .int .u32 0, .int .u32 0]
theorem bg0_av : Value.agg BG0 = av 16 bg0 := by rfl
theorem built_bg : Tryd.prog.built 43 [(0, .int .u32 1634760805), (1, .int .u32 857760878), (2, .int .u32 2036477234), (3, .int .u32 1797285236)] = some BG0 := by kernel_rfl
theorem built_b0 : Tryd.prog.built 43 [] = some ZC16 := by kernel_rfl
theorem zc16_av : Value.agg ZC16 = av 16 (fun _ => .int .u32 0) := by rfl
section
variable {ops : Array Oper} {rest : List Oper} {a : Act} {w : World} {Q : Exit → Act → World → Prop} {dst : Option Nat} {tp : TypeId} {ps : String} {af : Array Edge}
theorem bg_build (h : wpList Tryd.prog ops Q rest (a.put dst (av 16 bg0)) w) : wpList Tryd.prog ops Q (⟨dst, .build 43 #[(0, .const (.int .u32 1634760805)), (1, .const (.int .u32 857760878)), (2, .const (.int .u32 2036477234)), (3, .const (.int .u32 1797285236))], tp, ps, af, none⟩ :: rest) a w := by
  have hb := run_build (P := Tryd.prog) w 43 #[(0, .int .u32 1634760805), (1, .int .u32 857760878), (2, .int .u32 2036477234), (3, .int .u32 1797285236)] _ built_bg
  rw [bg0_av] at hb
  refine wpList_plain rfl fun K hK => ?_
  unfold Oper.wp execOp
  simp only [List.map_toArray, List.map_cons, List.map_nil, Act.eval, Sem.run_bind, hb, Result.andThen_ok, Sem.run_pure]
  exact hK _ _ h
theorem b0_build (h : wpList Tryd.prog ops Q rest (a.put dst (av 16 (fun _ => .int .u32 0))) w) : wpList Tryd.prog ops Q (⟨dst, .build 43 #[], tp, ps, af, none⟩ :: rest) a w := by
  have hb := run_build (P := Tryd.prog) w 43 #[] _ built_b0
  rw [zc16_av] at hb
  refine wpList_plain rfl fun K hK => ?_
  unfold Oper.wp execOp
  simp only [List.map_toArray, List.map_nil, Sem.run_bind, hb, Result.andThen_ok, Sem.run_pure]
  exact hK _ _ h
end
section
attribute [local irreducible] wle stN rl setA bg0 wlv
set_option maxHeartbeats 3200000 in
theorem begin_bad {kl nl k0 k1 : Nat} (h : kl ≠ 32 ∨ nl ≠ 12) {A0 A1 : Option Addr} (w : World) :
    Calls Tryd.prog 26 #[.slice A0 kl k0, .slice A1 nl k1] w fun e w' => e = .returned (.tuple #[av 16 (fun _ => .int .u32 0), .int .i64 1]) ∧ Below w.heap.size w w' := by
  have oz := OwnF.lit (w := w) (B := w.heap.size) 43 (Nat.le_refl _) ZC16 16 (fun _ => .int .u32 0) (by decide) (by kernel_rfl)
  have hc := (Below.refl w.heap.size w).alloc (Nat.le_refl _) (.cells ZC16 43)
  obtain ⟨v1, e1⟩ : ∃ v, v = w.alloc (.cells ZC16 43) := ⟨_, rfl⟩
  obtain ⟨gR, eR⟩ : ∃ g, g = w.heap.size := ⟨_, rfl⟩
  rw [← e1] at oz hc
  replace oz : OwnF v1 w.heap.size 43 (some ⟨gR, 0, none⟩) 16 16 (fun _ => .int .u32 0) := by rw [eR]; exact oz
  have hb := (av_only v1 gR 0 16 (fun _ => .int .u32 0)).below (OwnF.ge oz)
  have HB := Lib.hid (hc.trans hb)
  have HR := Lib.hid (OwnF.cl (av_all oz (fun _ => .int .u32 0)) (off := 0) (n := 16) (f' := fun _ => .int .u32 0) (by decide) fun k _ => rfl)
  have E1 := Lib.hid e1
  have ER := Lib.hid eR
  clear e1 eR hb hc
  have hcond : ((kl : Int) != 32) = true ∨ (((kl : Int) != 32) = false ∧ ((nl : Int) != 12) = true) := by
    by_cases h1 : kl = 32
    · right; constructor <;> simp <;> omega
    · left; simp; omega
  clear h
  go_enter Tryd.func26, Tryd.ntmps26
  go_upto_region 1 with fail
  rw [← E1.out, show (Value.pointer (some ⟨w.heap.size, 0, none⟩)) = .pointer (some ⟨gR, 0, none⟩) by rw [ER.out]]
  clear E1 ER
  rcases hcond with g1 | ⟨g1, g2⟩
  · go_wp2_with (first | (with_reducible refine b0_build ?_) | ((with_reducible refine av_store (off := 0) oz ty16s (by decide) (fun _ => .int .u32 0) (fun k _ => rfl) ?_ ?_ ?_); rfl; rfl))
    exact bodyPost_ret (av_res2 Tryd.results26 _ HR.out ty16s rfl rfl) rfl ⟨rfl, HB.out⟩
  · go_wp2_with (first | (with_reducible refine b0_build ?_) | ((with_reducible refine av_store (off := 0) oz ty16s (by decide) (fun _ => .int .u32 0) (fun k _ => rfl) ?_ ?_ ?_); rfl; rfl))
    exact bodyPost_ret (av_res2 Tryd.results26 _ HR.out ty16s rfl rfl) rfl ⟨rfl, HB.out⟩
set_option maxHeartbeats 3200000 in
theorem begin_any {key nonce : List UInt8} (hk : key.length = 32) (hn : nonce.length = 12) {A0 A1 : Option Addr} {B k0 k1 : Nat} (w : World) (r0 : Rd w B A0 k0 key) (r1 : Rd w B A1 k1 nonce) (hB : B ≤ w.heap.size) :
    Calls Tryd.prog 26 #[.slice A0 32 k0, .slice A1 12 k1] w fun e w' => e = .returned (.tuple #[av 16 (wvf (stN key nonce 0)), .int .i64 0]) ∧ Below w.heap.size w w' := by
  have oz := OwnF.lit (w := w) (B := w.heap.size) 43 (Nat.le_refl _) ZC16 16 (fun _ => .int .u32 0) (by decide) (by kernel_rfl)
  have hc := (Below.refl w.heap.size w).alloc (Nat.le_refl _) (.cells ZC16 43)
  obtain ⟨v1, e1⟩ : ∃ v, v = w.alloc (.cells ZC16 43) := ⟨_, rfl⟩
  obtain ⟨gR, eR⟩ : ∃ g, g = w.heap.size := ⟨_, rfl⟩
  rw [← e1] at oz hc
  replace oz : OwnF v1 w.heap.size 43 (some ⟨gR, 0, none⟩) 16 16 (fun _ => .int .u32 0) := by rw [eR]; exact oz
  have E1 := Lib.hid e1
  have ER := Lib.hid eR
  clear e1 eR
  have o6 := OwnF.lit (w := v1) (B := w.heap.size) 43 hc.size ZC16 16 (fun _ => .int .u32 0) (by decide) (by kernel_rfl)
  have h2 := (Below.refl v1.heap.size v1).alloc (Nat.le_refl _) (.cells ZC16 43)
  have h3 := (av_only (v1.alloc (.cells ZC16 43)) v1.heap.size 0 16 bg0).below (Nat.le_refl _)
  have h4 := h2.trans h3
  have ow := av_all o6 bg0
  obtain ⟨v2, e2⟩ : ∃ v, v = setA (v1.alloc (.cells ZC16 43)) v1.heap.size 0 16 bg0 := ⟨_, rfl⟩
  obtain ⟨g, eg⟩ : ∃ g, g = v1.heap.size := ⟨_, rfl⟩
  rw [← e2] at ow h4
  rw [← eg] at ow
  have hgR := Lib.hid (show g ≠ gR by have := OwnF.lt oz; omega)
  have hBg := Lib.hid (show B ≤ g by have := hc.size; omega)
  have hwg := Lib.hid (show w.heap.size ≤ g by have := hc.size; omega)
  replace oz := OwnF.keep oz h4
  replace r0 := r0.keep ((hc.mono hB).trans (h4.mono (Nat.le_trans hB hc.size)))
  replace r1 := r1.keep ((hc.mono hB).trans (h4.mono (Nat.le_trans hB hc.size)))
  replace hc := hc.trans (h4.mono hc.size)
  have O6 := Lib.hid o6
  have E2 := Lib.hid e2
  have EG := Lib.hid eg
  clear h2 h3 h4 o6 e2 eg hB
  have d0 : ∀ ad, A0 = some ad → ad.block ≠ g := by
    intro ad e
    obtain ⟨b, o, e', hlt, _⟩ := r0.at_ (k := 0) (by omega)
    rw [e'] at e; cases e
    have := hBg.out
    show b ≠ g
    omega
  have d1 : ∀ ad, A1 = some ad → ad.block ≠ g := by
    intro ad e
    obtain ⟨b, o, e', hlt, _⟩ := r1.at_ (k := 0) (by omega)
    rw [e'] at e; cases e
    have := hBg.out
    show b ≠ g
    omega
  have K1 := fill10_any (n := 8) (off := 4) (cap := 12) hk (by decide) (by decide) (by decide) v2 ow (fun j _ => by unfold bg0; rw [if_neg (by omega)]) r0 d0
  rw [hk] at K1
  have hF : ∀ j, j < 16 → (if 13 ≤ j ∧ j < 13 + 3 then wlv nonce (j - 13) else if 4 ≤ j ∧ j < 4 + 8 then wlv key (j - 4) else bg0 j) = wvf (stN key nonce 0) j := by
    intro j hj
    unfold wvf stN
    by_cases h4 : j < 4
    · rw [if_neg (by omega), if_neg (by omega), if_pos h4]; unfold bg0; rw [if_pos h4]
    · rw [if_neg h4]
      by_cases h12 : j < 12
      · rw [if_neg (by omega), if_pos (by omega), if_pos h12]; unfold wlv; rfl
      · rw [if_neg h12]
        by_cases e12 : j = 12
        · rw [if_neg (by omega), if_neg (by omega), if_pos e12]; unfold bg0; rw [if_neg h4]; rfl
        · rw [if_pos (by omega), if_neg e12]; unfold wlv; rfl
  have HF := Lib.hid hF
  have KF1 := Lib.hid K1
  have HN := Lib.hid hn
  have g1 : ((32 : Int) != 32) = false := by decide
  clear K1 hF hk hn r0 d0
  go_enter Tryd.func26, Tryd.ntmps26
  go_upto_region 1 with fail
  rw [← E1.out, show (Value.pointer (some ⟨w.heap.size, 0, none⟩)) = .pointer (some ⟨gR, 0, none⟩) by rw [ER.out]]
  clear E1 ER
  go_upto_region 4 with (first | (with_reducible refine bg_build ?_) | ((with_reducible refine av_store (off := 0) O6.out ty16s (by decide) bg0 (fun k _ => bg0_one k) ?_ ?_ ?_); rfl; rfl))
  rw [← E2.out, show (Value.pointer (some ⟨v1.heap.size, 0, none⟩)) = .pointer (some ⟨g, 0, none⟩) by rw [EG.out]]
  clear E2 EG O6
  go_wp2_with fail
  go_at_call 41
  refine KF1.out.mono ?_
  rintro e v3 ⟨rfl, ow3, on⟩
  replace oz := OwnF.only oz on hgR.out
  replace hc := hc.trans (on.below hwg.out)
  replace r1 := r1.keep (on.below hBg.out)
  clear on ow KF1
  have K2 := fill10_any (n := 3) (off := 13) (cap := 3) HN.out (by decide) (by decide) (by decide) v3 ow3 (fun j hj => by rw [if_neg (by omega)]; unfold bg0; rw [if_neg (by omega)]) r1 d1
  rw [HN.out] at K2
  have KF2 := Lib.hid K2
  clear K2 ow3 d1 r1
  go_wp2_with fail
  go_at_call 41
  refine KF2.out.mono ?_
  rintro e v4 ⟨rfl, ow4, on⟩
  replace oz := OwnF.only oz on hgR.out
  replace hc := hc.trans (on.below hwg.out)
  have hcl := Lib.hid (OwnF.cl ow4 (off := 0) (n := 16) (f' := wvf (stN key nonce 0)) (by decide) fun k hk => by rw [Nat.zero_add]; exact HF.out k hk)
  have hb := (av_only v4 gR 0 16 (wvf (stN key nonce 0))).below (OwnF.ge oz)
  have HB := Lib.hid (hc.trans hb)
  have HR := Lib.hid (OwnF.cl (av_all oz (wvf (stN key nonce 0))) (off := 0) (n := 16) (f' := wvf (stN key nonce 0)) (by decide) fun k _ => by rw [Nat.zero_add])
  clear on KF2 ow4 hb hc HF
  go_wp2_with (first | ((with_reducible refine av_load hcl.out ty16s ?_ ?_); rfl) | ((with_reducible refine av_store (off := 0) oz ty16s (by decide) (wvf (stN key nonce 0)) (fun k _ => wvf_one _ k) ?_ ?_ ?_); rfl; rfl))
  exact bodyPost_ret (av_res2 Tryd.results26 _ HR.out ty16s rfl rfl) rfl ⟨rfl, HB.out⟩
end
end Go.Proofs.YtmhfkabpfkoocaaDoor
namespace Go.Proofs.YtmhfkabpfkoocaaDoor
open Go Go.RowKit
set_option maxRecDepth 20000
theorem up1_st (key nonce : List UInt8) (ctr : Nat) : up1 (stN key nonce 0) 12 ctr = stN key nonce ctr := by
  funext k
  unfold up1 stN
  by_cases h : k = 12
  · subst h; rfl
  · rw [if_neg h]
    by_cases h4 : k < 4
    · rw [if_pos h4, if_pos h4]
    · rw [if_neg h4, if_neg h4]
      by_cases h12 : k < 12
      · rw [if_pos h12, if_pos h12]
      · rw [if_neg h12, if_neg h12, if_neg h, if_neg h]
theorem blkB_is (key nonce : List UInt8) (ctr : Nat) : gen (wby (blF (up1 (stN key nonce 0) 12 ctr))) 64 = blkB key nonce ctr := by
  rw [up1_st]; rfl
section
attribute [local irreducible] wle stN rl setA blkB obf blF
set_option maxHeartbeats 3200000 in
theorem Block_bad {kl nl k0 k1 ctr : Nat} (h : kl ≠ 32 ∨ nl ≠ 12) {A0 A1 : Option Addr} (w : World) :
    Calls Tryd.prog 25 #[.slice A0 kl k0, .slice A1 nl k1, .int .u32 (ctr : Int)] w fun e w' => e = .returned (.tuple #[.slice none 0 0, .int .i64 1]) ∧ Below w.heap.size w w' := by
  have KB := Lib.hid (begin_bad (k0 := k0) (k1 := k1) h (A0 := A0) (A1 := A1) w)
  clear h
  go_enter Tryd.func25, Tryd.ntmps25
  go_wp2_with fail
  go_at_call 26
  refine KB.out.mono ?_
  rintro e v1 ⟨rfl, hc⟩
  have o1 := OwnF.lit (w := v1) (B := w.heap.size) 43 hc.size ZC16 16 (fun _ => .int .u32 0) (by decide) (by kernel_rfl)
  have h2 := (Below.refl v1.heap.size v1).alloc (Nat.le_refl _) (.cells ZC16 43)
  have h3 := (av_only (v1.alloc (.cells ZC16 43)) v1.heap.size 0 16 (fun _ => .int .u32 0)).below (Nat.le_refl _)
  have HB := Lib.hid (hc.trans ((h2.trans h3).mono hc.size))
  clear h2 h3 hc KB
  go_wp2_with ((with_reducible refine av_store (off := 0) o1 ty16s (by decide) (fun _ => .int .u32 0) (fun k _ => rfl) ?_ ?_ ?_); rfl; rfl)
  go_returns
  exact ⟨rfl, HB.out⟩
set_option maxHeartbeats 3200000 in
theorem Block_any {key nonce : List UInt8} {ctr : Nat} (hk : key.length = 32) (hn : nonce.length = 12) (hctr : ctr < 4294967296) {A0 A1 : Option Addr} {B k0 k1 : Nat} (w : World) (r0 : Rd w B A0 k0 key) (r1 : Rd w B A1 k1 nonce) (hB : B ≤ w.heap.size) :
    Calls Tryd.prog 25 #[.slice A0 32 k0, .slice A1 12 k1, .int .u32 (ctr : Int)] w fun e w' => ∃ A c, e = .returned (.tuple #[.slice A 64 c, .int .i64 0]) ∧ Rd w' w'.heap.size A c (blkB key nonce ctr) ∧ Below w.heap.size w w' := by
  have KB := Lib.hid (begin_any hk hn w r0 r1 hB)
  have hbk := Lib.hid (blkB_is key nonce ctr)
  have hsl := stN_lt (key := key) (nonce := nonce) (ctr := 0) (by decide)
  clear hk hn r0 r1 hB
  obtain ⟨s, es⟩ : ∃ s, s = stN key nonce 0 := ⟨_, rfl⟩
  rw [← es] at KB hbk hsl
  have HS := Lib.hid hsl
  clear es hsl
  go_enter Tryd.func25, Tryd.ntmps25
  go_wp2_with fail
  go_at_call 26
  refine KB.out.mono ?_
  rintro e v1 ⟨rfl, hc⟩
  have o1 := OwnF.lit (w := v1) (B := w.heap.size) 43 hc.size ZC16 16 (fun _ => .int .u32 0) (by decide) (by kernel_rfl)
  have h2 := (Below.refl v1.heap.size v1).alloc (Nat.le_refl _) (.cells ZC16 43)
  have h3 := (av_only (v1.alloc (.cells ZC16 43)) v1.heap.size 0 16 (wvf s)).below (Nat.le_refl _)
  have HO := Lib.hid (And.intro (hc.trans ((h2.trans h3).mono hc.size)) (av_all o1 (wvf s)))
  clear h2 h3 hc KB
  go_upto_region 2 with ((with_reducible refine av_store (off := 0) o1 ty16s (by decide) (wvf s) (fun k _ => wvf_one _ k) ?_ ?_ ?_); rfl; rfl)
  obtain ⟨hc, os⟩ := HO.out
  obtain ⟨v2, e2⟩ : ∃ v, v = setA (v1.alloc (.cells ZC16 43)) v1.heap.size 0 16 (wvf s) := ⟨_, rfl⟩
  obtain ⟨g, eg⟩ : ∃ g, g = v1.heap.size := ⟨_, rfl⟩
  rw [← e2] at hc os ⊢
  rw [← eg] at os
  rw [show (Value.pointer (some ⟨v1.heap.size, 0, none⟩)) = .pointer (some ⟨g, 0, none⟩) by rw [eg]]
  have hcl := Lib.hid (OwnF.cl os (off := 0) (n := 16) (f' := wvf s) (by decide) fun k _ => by rw [Nat.zero_add])
  clear HO e2 eg o1
  go_wp2_with ((with_reducible refine av_load hcl.out ty16s ?_ ?_); rfl)
  go_at_call 27
  refine (cblock_any HS.out hctr _).mono ?_
  rintro e v3 ⟨rfl, h0⟩
  replace hc := hc.trans (h0.mono hc.size)
  clear h0 hcl os
  obtain ⟨F, eF⟩ : ∃ F, F = blF (up1 s 12 ctr) := ⟨_, rfl⟩
  rw [← eF] at hbk ⊢
  clear eF
  have o1 := OwnF.lit (w := v3) (B := w.heap.size) 46 hc.size ZC64 64 (fun _ => .int .u8 0) (by decide) (by kernel_rfl)
  have h2 := (Below.refl v3.heap.size v3).alloc (Nat.le_refl _) (.cells ZC64 46)
  have h3 := (av_only (v3.alloc (.cells ZC64 46)) v3.heap.size 0 64 (obf F)).below (Nat.le_refl _)
  have HO := Lib.hid (And.intro (hc.trans ((h2.trans h3).mono hc.size)) (av_all o1 (obf F)))
  clear h2 h3 hc
  go_wp2_with ((with_reducible refine av_store (off := 0) o1 ty64b (by decide) (obf F) (fun k _ => obf_one _ k) ?_ ?_ ?_); rfl; rfl)
  go_returns
  refine ⟨some ⟨v3.heap.size, 0, none⟩, 64, rfl, ?_, HO.out.1⟩
  have := own_gen HO.out.2
  rw [hbk.out] at this
  exact this.rd
end
end Go.Proofs.YtmhfkabpfkoocaaDoor
