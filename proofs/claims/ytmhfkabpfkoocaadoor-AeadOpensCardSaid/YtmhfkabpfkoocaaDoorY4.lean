/-
  Layer 10's document: Block. Written by tools/gen_y4.py. By an AI agent.
-/
import Derived.Test.YtmhfkabpfkoocaaDoorY3
namespace Go.Proofs.YtmhfkabpfkoocaaDoor
open Go Go.RowKit
set_option maxRecDepth 20000
/-! The state and the rounds, in numbers. -/
def cst (k : Nat) : Nat := [1634760805, 857760878, 2036477234, 1797285236].getD k 0
def stN (key nonce : List UInt8) (ctr k : Nat) : Nat := if k < 4 then cst k else if k < 12 then wle key (4 * (k - 4)) else if k = 12 then ctr else wle nonce (4 * (k - 13))
theorem stN_lt {key nonce : List UInt8} {ctr : Nat} (h : ctr < 4294967296) (k : Nat) : stN key nonce ctr k < 4294967296 := by
  unfold stN
  split
  · rename_i hk
    have : k = 0 ∨ k = 1 ∨ k = 2 ∨ k = 3 := by omega
    rcases this with rfl | rfl | rfl | rfl <;> decide
  · split
    · exact wle_lt _ _
    · split
      · exact h
      · exact wle_lt _ _
def wvf (f : Nat → Nat) (k : Nat) : Value := .int .u32 ((f k : Nat) : Int)
def up1 (f : Nat → Nat) (p v : Nat) : Nat → Nat := fun k => if k = p then v else f k
def q4of (f : Nat → Nat) (i : Nat) : Q4 := ⟨f (plN i 0), f (plN i 1), f (plN i 2), f (plN i 3)⟩
/-- Some words of a quarter are laid down. -/
def qrK (f : Nat → Nat) (i : Nat) : Nat → Nat → Nat
  | 0 => f
  | k + 1 => up1 (qrK f i k) (plN i k) ((q4of f i).quarter.at k)
/-- Some quarters of a round. -/
def rowK (f : Nat → Nat) : Nat → Nat → Nat
  | 0 => f
  | i + 1 => qrK (rowK f i) i 4
/-- Some rounds. -/
def rndK (f : Nat → Nat) : Nat → Nat → Nat
  | 0 => f
  | n + 1 => rowK (rndK f n) 8
theorem Q4.at_lt {q : Q4} (h : q.ok) (k : Nat) : q.at k < 4294967296 := by
  obtain ⟨h1, h2, h3, h4⟩ := h
  unfold Q4.at
  match k with
  | 0 => exact h1
  | 1 => exact h2
  | 2 => exact h3
  | 3 => exact h4
  | k + 4 => exact (by decide : (0 : Nat) < 4294967296)
theorem q4of_ok {f : Nat → Nat} (h : ∀ k, f k < 4294967296) (i : Nat) : (q4of f i).ok := ⟨h _, h _, h _, h _⟩
theorem qrK_lt {f : Nat → Nat} (h : ∀ k, f k < 4294967296) (i : Nat) : ∀ n k, qrK f i n k < 4294967296
  | 0, k => h k
  | n + 1, k => by
    show up1 _ _ _ k < _
    unfold up1
    split
    · exact Q4.at_lt (Q4.quarter_ok (q4of_ok h i)) n
    · exact qrK_lt h i n k
theorem rowK_lt {f : Nat → Nat} (h : ∀ k, f k < 4294967296) : ∀ n k, rowK f n k < 4294967296
  | 0, k => h k
  | n + 1, k => qrK_lt (rowK_lt h n) n 4 k
theorem rndK_lt {f : Nat → Nat} (h : ∀ k, f k < 4294967296) : ∀ n k, rndK f n k < 4294967296
  | 0, k => h k
  | n + 1, k => rowK_lt (rndK_lt h n) 8 k
theorem qrK_zero (f : Nat → Nat) (i : Nat) : qrK f i 0 = f := rfl
theorem rowK_zero (f : Nat → Nat) : rowK f 0 = f := rfl
theorem rowK_succ (f : Nat → Nat) (i : Nat) : qrK (rowK f i) i 4 = rowK f (i + 1) := rfl
theorem rndK_succ (f : Nat → Nat) (n : Nat) : rowK (rndK f n) 8 = rndK f (n + 1) := rfl
theorem qrK_at (f : Nat → Nat) (i k j : Nat) : qrK f i (k + 1) j = if j = plN i k then (q4of f i).quarter.at k else qrK f i k j := rfl
def dvd8 (x k : Nat) : Nat := x / 256 ^ k
theorem dvd8_lt {x : Nat} (h : x < 4294967296) (k : Nat) : dvd8 x k < 4294967296 := Nat.lt_of_le_of_lt (Nat.div_le_self _ _) h
theorem dvd8_zero (x : Nat) : dvd8 x 0 = x := Nat.div_one x
theorem dvd8_succ (x k : Nat) : dvd8 x (k + 1) = dvd8 x k / 256 := by unfold dvd8; rw [Nat.pow_succ, Nat.div_div_eq_div_mul]
/-- A byte of words, one behind the other. -/
def wby (f : Nat → Nat) (j : Nat) : UInt8 := UInt8.ofNat (dvd8 (f (j / 4)) (j % 4) % 256)
def obf (f : Nat → Nat) (j : Nat) : Value := .int .u8 (((wby f j).toNat : Nat) : Int)
theorem byte_at {f : Nat → Nat} {m k l : Nat} (hl : l = 4 * m) (hk : k < 4) : Value.int .u8 ((dvd8 (f m) k % 256 : Nat) : Int) = obf f (l + k) := by
  subst hl
  unfold obf wby
  rw [show (4 * m + k) / 4 = m by omega, show (4 * m + k) % 4 = k by omega]
  simp
def blkW (key nonce : List UInt8) (ctr k : Nat) : Nat := ad32 (rndK (stN key nonce ctr) 10 k) (stN key nonce ctr k)
def blkB (key nonce : List UInt8) (ctr : Nat) : List UInt8 := gen (wby (blkW key nonce ctr)) 64
theorem blkB_len (key nonce : List UInt8) (ctr : Nat) : (blkB key nonce ctr).length = 64 := gen_length _ _
theorem own_gen {w : World} {B c n : Nat} {e : TypeId} {A : Option Addr} {f : Nat → Nat} (h : OwnF w B e A c n (obf f)) : Own w B e A c (gen (wby f) n) := by
  unfold OwnF at h
  unfold Own
  rw [gen_length]
  have : (List.range n).map (obf f) = (gen (wby f) n).map bv := by unfold gen; rw [List.map_map]; rfl
  rw [← this]
  exact h
theorem own_at0 {w : World} {B c n : Nat} {e : TypeId} {A : Option Addr} {f : Nat → Value} (h : OwnF w B e A c n f) (hn : 0 < n) : ∃ g, A = some ⟨g, 0, none⟩ := by
  obtain ⟨_, h2⟩ := h
  rcases h2 with ⟨_, h0⟩ | ⟨g, cap, cur, hv, _⟩
  · omega
  · simp only [Value.slice.injEq] at hv
    exact ⟨g, hv.1⟩
def qrow (B : Nat) (q : Q4) (v : Value) (w : World) : Prop := ∃ A c, v = .slice A 4 c ∧ OwnF w B 34 A c 4 (q4v q)
theorem qrow_keep (B : Nat) (q : Q4) : ∀ v w w', qrow B q v w → Below w.heap.size w w' → qrow B q v w' := fun _ _ _ ⟨A, c, h, o⟩ hb => ⟨A, c, h, OwnF.keep o hb⟩
theorem infoU8y : (Tryd.prog.info? 5).map (fun i => (i.zero, i.size, i.bytes)) = some (some (.int .u8 0), 1, 1) := by kernel_rfl
section
attribute [local irreducible] wle stN wvf rndK rowK qrK ad32 dvd8 obf q4v
set_option maxHeartbeats 6400000 in
theorem block_any {key nonce : List UInt8} {ctr : Nat} (hk : key.length = 32) (hn : nonce.length = 12) (hctr : ctr < 4294967296) {A0 A1 : Option Addr} {B k0 k1 : Nat} (w : World) (r0 : Rd w B A0 k0 key) (r1 : Rd w B A1 k1 nonce) (hB : B ≤ w.heap.size) :
    Calls Tryd.prog 22 #[.slice A0 32 k0, .slice A1 12 k1, .int .u32 (ctr : Int)] w fun e w' => ∃ A c, e = .returned (.slice A 64 c) ∧ Own w' w.heap.size 5 A c (blkB key nonce ctr) ∧ Below w.heap.size w w' := by
  obtain ⟨i0, hi, hz0, hz1, hz2⟩ := info_parts infoU32w
  obtain ⟨i1, ji, jz0, jz1, jz2⟩ := info_parts infoU8y
  obtain ⟨st, hst⟩ : ∃ s, s = stN key nonce ctr := ⟨_, rfl⟩
  have HST := Lib.hid (show ∀ k, st k < 4294967296 by rw [hst]; exact stN_lt hctr)
  have hbk : blkB key nonce ctr = gen (wby fun k => ad32 (rndK st 10 k) (st k)) 64 := by rw [hst]; rfl
  rw [hbk]
  have s0 : ∀ k, k < 4 → Value.int .u32 ((cst k : Nat) : Int) = wvf st k := fun k h => by rw [hst]; unfold wvf stN; rw [if_pos h]
  have s1 : ∀ k, 4 ≤ k → k < 12 → wlv key (k - 4) = wvf st k := fun k h h2 => by rw [hst]; unfold wvf stN wlv; rw [if_neg (by omega), if_pos h2]
  have s2 : Value.int .u32 (ctr : Int) = wvf st 12 := by rw [hst]; unfold wvf stN; rfl
  have s3 : ∀ k, 13 ≤ k → wlv nonce (k - 13) = wvf st k := fun k h => by rw [hst]; unfold wvf stN wlv; rw [if_neg (by omega), if_neg (by omega), if_neg (by omega)]
  have S0 := Lib.hid s0
  have S1 := Lib.hid s1
  have S2 := Lib.hid s2
  have S3 := Lib.hid s3
  clear s0 s1 s2 s3 hst hbk hctr
  obtain ⟨v0, ev⟩ : ∃ v, v = w.alloc (.cells #[.int .u32 1634760805, .int .u32 857760878, .int .u32 2036477234, .int .u32 1797285236] 34) := ⟨_, rfl⟩
  have hc : Below w.heap.size w v0 := by rw [ev]; exact (Below.refl _ w).alloc (Nat.le_refl _) _
  obtain ⟨g0, eg⟩ : ∃ g, g = w.heap.size := ⟨_, rfl⟩
  have o1 : OwnF v0 w.heap.size 34 (some ⟨g0, 0, none⟩) 4 4 (wvf st) := by
    rw [ev, eg]
    exact (OwnF.lit _ (Nat.le_refl _) _ 4 (fun k => .int .u32 ((cst k : Nat) : Int)) (by decide) rfl).congr S0.out
  have kw := words10_any (m := 8) (by rw [hk]) (by decide) (by decide) v0 (r0.keep (hc.mono hB)) (Nat.le_trans hB hc.size)
  rw [hk] at kw
  have KW := Lib.hid kw
  have R1 := Lib.hid r1
  clear kw r0 r1 hk
  go_enter Tryd.func22, Tryd.ntmps22
  go_upto_region 2 with fail
  rw [← ev]
  rw [show Value.slice (some ⟨w.heap.size, 0, none⟩) 4 4 = .slice (some ⟨g0, 0, none⟩) 4 4 by rw [eg]]
  clear ev eg
  go_wp2_with fail
  go_at_call 31
  refine KW.out.mono ?_
  rintro e v1 ⟨A2, c2, rfl, ow, hb⟩
  replace o1 := OwnF.keep o1 hb
  replace hc := hc.trans (hb.mono hc.size)
  have rw1 := ow.rd
  have hs1 := hc.size
  clear hb ow KW
  go_upto_region 3 with (at_builtin; refine wpList_app32 _ rfl (.tmp 20) (.tmp 22) _ rfl w.heap.size 34 i0 _ Tryd.underlying49 hi hz0 hz1 hz2 (by decide) rfl rfl o1 rfl rw1 (fun _ _ => rfl) (by decide) (by decide) hs1 ?_; intro A3 c3 v2 o2 hb2)
  replace hc := hc.trans hb2
  have o3 : OwnF v2 w.heap.size 34 A3 c3 12 (wvf st) := OwnF.congr (n := 12) o2 fun k hk => by
    by_cases h : k < 4
    · rw [if_pos h]
    · rw [if_neg h]; exact S1.out k (by omega) hk
  have hs2 := hc.size
  clear o2 o1 rw1 hb2 hs1
  go_upto_region 4 with (at_builtin; refine wpList_appF1 _ rfl (.tmp 24) (.tmp 26) _ rfl w.heap.size 34 i0 _ Tryd.underlying49 hi hz0 hz1 hz2 (by decide) rfl rfl o3 S2.out rfl (by unfold wvf; rfl) (by decide) (by decide) hs2 ?_; intro A4 c4 v3 o4 hb3)
  replace hc := hc.trans hb3
  have kw := words10_any (m := 3) (by rw [hn]) (by decide) (by decide) v3 (R1.out.keep (hc.mono hB)) (Nat.le_trans hB hc.size)
  rw [hn] at kw
  have KW := Lib.hid kw
  clear kw o3 hb3 hs2 hn
  go_wp2_with fail
  go_at_call 31
  refine KW.out.mono ?_
  rintro e v4 ⟨A5, c5, rfl, ow, hb⟩
  replace o4 := OwnF.keep o4 hb
  replace hc := hc.trans (hb.mono hc.size)
  have rw1 := ow.rd
  have hs1 := hc.size
  clear hb ow KW R1
  go_upto_region 5 with (at_builtin; refine wpList_app32 _ rfl (.tmp 28) (.tmp 30) _ rfl w.heap.size 34 i0 _ Tryd.underlying49 hi hz0 hz1 hz2 (by decide) rfl rfl o4 rfl rw1 (fun _ _ => rfl) (by decide) (by decide) hs1 ?_; intro A6 c6 v5 o5 hb5)
  replace hc := hc.trans hb5
  have oS : OwnF v5 w.heap.size 34 A6 c6 16 (wvf st) := OwnF.congr (n := 16) o5 fun k hk => by
    by_cases h : k < 13
    · rw [if_pos h]
    · rw [if_neg h]; exact S3.out k (by omega)
  clear o5 o4 rw1 hb5 hs1
  obtain ⟨gs, rfl⟩ := own_at0 oS (by decide)
  have hgs := OwnF.lt oS
  obtain ⟨v6, ev⟩ : ∃ v, v = v5.alloc (.cells #[] 34) := ⟨_, rfl⟩
  obtain ⟨ge, eg⟩ : ∃ g, g = v5.heap.size := ⟨_, rfl⟩
  have hb6 : Below v5.heap.size v5 v6 := by rw [ev]; exact (Below.refl _ v5).alloc (Nat.le_refl _) _
  have oe : OwnF v6 v5.heap.size 34 (some ⟨ge, 0, none⟩) 0 0 (wvf st) := by rw [ev, eg]; exact OwnF.lit _ (Nat.le_refl _) #[] 0 _ (by decide) rfl
  replace oS := OwnF.keep oS hb6
  have rS := oS.rd
  have hs6 := hb6.size
  have EV := Lib.hid ev
  have EG := Lib.hid eg
  clear ev eg
  go_upto_region 6 with (at_builtin; rw [← EV.out]; refine wpList_app32 _ rfl (.tmp 32) (.tmp 33) _ rfl v5.heap.size 34 i0 _ Tryd.underlying49 hi hz0 hz1 hz2 (by decide) rfl (congrArg (fun g => Value.slice (some ⟨g, 0, none⟩) 0 0) EG.out.symm) oe rfl rS (fun k _ => by unfold wvf; rfl) (by decide) (by decide) hs6 ?_; intro A7 cw v7 o7 hb7)
  have oW : OwnF v7 v5.heap.size 34 A7 cw 16 (wvf st) := OwnF.congr (n := 16) o7 fun k hk => by rw [if_neg (Nat.not_lt_zero k)]; rfl
  replace oS := OwnF.keepAt oS (hb7.mono hgs)
  replace hc := hc.trans ((hb6.trans hb7).mono hc.size)
  have hs5 := hc.size
  clear o7 oe rS hb6 hb7 hs6 EV EG
  obtain ⟨gw, rfl⟩ := own_at0 oW (by decide)
  have NSW := Lib.hid (show gw ≠ gs by have := OwnF.ge oW; omega)
  replace oW := oW.mono (show w.heap.size ≤ v5.heap.size from Nat.le_trans (OwnF.ge oS) (Nat.le_of_lt hgs))
  clear hgs hs5
  obtain ⟨B6, hB6⟩ : ∃ B, B = v7.heap.size := ⟨_, rfl⟩
  have NW6 := Lib.hid (show gw < B6 by rw [hB6]; exact OwnF.lt oW)
  have KP := Lib.hid (places_any v7)
  go_wp2_with fail
  go_at_call 32
  refine KP.out.mono ?_
  rintro e v8 ⟨gp, G, rfl, hP, hb⟩
  rw [← hB6] at hP
  replace oS := OwnF.keep oS hb
  replace oW := OwnF.keep oW hb
  replace hc := hc.trans (hb.mono hc.size)
  clear hb KP hB6
  have e0 : rndK st 0 = st := by unfold rndK; rfl
  rw [← e0] at oW
  obtain ⟨cs, hcs⟩ : ∃ c, c = c6 := ⟨_, rfl⟩
  subst hcs
  clear e0
  go_wp2_with fail
  go_loopw [10] (fun i wr => ∃ n : Nat, n ≤ 10 ∧ i = .int .i64 (n : Int) ∧ OwnF wr w.heap.size 34 (some ⟨gs, 0, none⟩) cs 16 (wvf st) ∧ OwnF wr w.heap.size 34 (some ⟨gw, 0, none⟩) cw 16 (wvf (rndK st n)) ∧ Pl wr B6 gp G ∧ Below w.heap.size w wr)
    (fun i _ => 10 - (intOf i).toNat)
  case atStart => exact ⟨0, by omega, rfl, oS, oW, hP, hc⟩
  case round =>
    clear oS oW hP hc
    obtain ⟨n, hn, rfl, oS, oW, hP, hc⟩ := hrel
    by_cases hlt : n < 10
    · have g1 : (n : Int) < 10 := by omega
      obtain ⟨f, hf⟩ : ∃ f, f = rndK st n := ⟨_, rfl⟩
      rw [← hf] at oW
      have HF := Lib.hid hf
      have HFL := Lib.hid (show ∀ k, f k < 4294967296 by rw [hf]; exact rndK_lt HST.out n)
      clear hf
      rw [← rowK_zero f] at oW
      obtain ⟨wa, ewa⟩ : ∃ wa : World, wa = wr := ⟨_, rfl⟩
      subst ewa
      go_wp2_with fail
      go_loopw [11] (fun i wr => ∃ m : Nat, m ≤ 8 ∧ i = .int .i64 (m : Int) ∧ OwnF wr w.heap.size 34 (some ⟨gs, 0, none⟩) cs 16 (wvf st) ∧ OwnF wr w.heap.size 34 (some ⟨gw, 0, none⟩) cw 16 (wvf (rowK f m)) ∧ Pl wr B6 gp G ∧ Below w.heap.size w wr)
        (fun i _ => 8 - (intOf i).toNat)
      case atStart => exact ⟨0, by omega, rfl, oS, oW, hP, hc⟩
      case round =>
        clear oS oW hP hc
        obtain ⟨m, hm, rfl, oS, oW, hP, hc⟩ := hrel
        by_cases hlt2 : m < 8
        · have g2 : (m : Int) < 8 := by omega
          have g3 : (0 : Int) ≤ (m : Int) := by omega
          obtain ⟨h, hh⟩ : ∃ h, h = rowK f m := ⟨_, rfl⟩
          rw [← hh] at oW
          have HH := Lib.hid hh
          have HHL := Lib.hid (show ∀ k, h k < 4294967296 by rw [hh]; exact rowK_lt HFL.out m)
          clear hh
          obtain ⟨gi, hgi⟩ : ∃ g, g = G m := ⟨_, rfl⟩
          have HGI := Lib.hid hgi
          have hP2 := hP
          obtain ⟨hB6, _, hrows⟩ := hP2
          obtain ⟨_, _, crow, cpl⟩ := hrows m hlt2
          rw [← hgi] at crow cpl
          clear hrows hB6 hgi
          obtain ⟨wb, ewb⟩ : ∃ wb : World, wb = wr := ⟨_, rfl⟩
          subst ewb
          go_upto_region 14 with fail
          clear crow
          obtain ⟨p0, hp0⟩ : ∃ p, p = plN m 0 := ⟨_, rfl⟩
          have HP0 := Lib.hid hp0
          have L0 := Lib.hid (show (0 : Int) ≤ (p0 : Int) ∧ (p0 : Int) < 16 by have := plN_lt m hlt2 0 (by decide); omega)
          have LN0 := Lib.hid (show p0 < 16 by rw [hp0]; exact plN_lt m hlt2 0 (by decide))
          obtain ⟨f0, hf0⟩ : ∃ x, x = h p0 := ⟨_, rfl⟩
          have HF0 := Lib.hid hf0
          obtain ⟨p1, hp1⟩ : ∃ p, p = plN m 1 := ⟨_, rfl⟩
          have HP1 := Lib.hid hp1
          have L1 := Lib.hid (show (0 : Int) ≤ (p1 : Int) ∧ (p1 : Int) < 16 by have := plN_lt m hlt2 1 (by decide); omega)
          have LN1 := Lib.hid (show p1 < 16 by rw [hp1]; exact plN_lt m hlt2 1 (by decide))
          obtain ⟨f1, hf1⟩ : ∃ x, x = h p1 := ⟨_, rfl⟩
          have HF1 := Lib.hid hf1
          obtain ⟨p2, hp2⟩ : ∃ p, p = plN m 2 := ⟨_, rfl⟩
          have HP2 := Lib.hid hp2
          have L2 := Lib.hid (show (0 : Int) ≤ (p2 : Int) ∧ (p2 : Int) < 16 by have := plN_lt m hlt2 2 (by decide); omega)
          have LN2 := Lib.hid (show p2 < 16 by rw [hp2]; exact plN_lt m hlt2 2 (by decide))
          obtain ⟨f2, hf2⟩ : ∃ x, x = h p2 := ⟨_, rfl⟩
          have HF2 := Lib.hid hf2
          obtain ⟨p3, hp3⟩ : ∃ p, p = plN m 3 := ⟨_, rfl⟩
          have HP3 := Lib.hid hp3
          have L3 := Lib.hid (show (0 : Int) ≤ (p3 : Int) ∧ (p3 : Int) < 16 by have := plN_lt m hlt2 3 (by decide); omega)
          have LN3 := Lib.hid (show p3 < 16 by rw [hp3]; exact plN_lt m hlt2 3 (by decide))
          obtain ⟨f3, hf3⟩ : ∃ x, x = h p3 := ⟨_, rfl⟩
          have HF3 := Lib.hid hf3
          have CP := Lib.hid (show ∀ wz, Below wb.heap.size wb wz → wz.cell? ⟨gi, 0, none⟩ = some (.int .i64 (p0 : Int)) ∧ wz.cell? ⟨gi, 1, none⟩ = some (.int .i64 (p1 : Int)) ∧ wz.cell? ⟨gi, 2, none⟩ = some (.int .i64 (p2 : Int)) ∧ wz.cell? ⟨gi, 3, none⟩ = some (.int .i64 (p3 : Int)) from fun wz hz => by
            have hQ := Pl.keep hP hz
            obtain ⟨_, _, _, c⟩ := hQ.2.2 m hlt2
            rw [← HGI.out] at c
            have c0 := c 0 (by decide)
            have c1 := c 1 (by decide)
            have c2 := c 2 (by decide)
            have c3 := c 3 (by decide)
            unfold plv at c0 c1 c2 c3
            rw [← hp0] at c0
            rw [← hp1] at c1
            rw [← hp2] at c2
            rw [← hp3] at c3
            exact ⟨c0, c1, c2, c3⟩)
          have CW := Lib.hid (show ∀ wz, Below wb.heap.size wb wz → wz.cell? ⟨gw, p0, none⟩ = some (.int .u32 (f0 : Int)) ∧ wz.cell? ⟨gw, p1, none⟩ = some (.int .u32 (f1 : Int)) ∧ wz.cell? ⟨gw, p2, none⟩ = some (.int .u32 (f2 : Int)) ∧ wz.cell? ⟨gw, p3, none⟩ = some (.int .u32 (f3 : Int)) from fun wz hz => by
            have oz := OwnF.keep oW hz
            have e : ∀ q, q < 16 → wz.cell? ⟨gw, q, none⟩ = some (.int .u32 ((h q : Nat) : Int)) := fun q hq => by
              have c := OwnF.cell oz hq
              unfold wvf at c
              exact c
            rw [hf0, hf1, hf2, hf3]
            exact ⟨e p0 LN0.out, e p1 LN1.out, e p2 LN2.out, e p3 LN3.out⟩)
          obtain ⟨Q, hQ⟩ : ∃ Q, Q = q4of h m := ⟨_, rfl⟩
          have eQ : Q = ⟨f0, f1, f2, f3⟩ := by rw [hQ, hf0, hf1, hf2, hf3, hp0, hp1, hp2, hp3]; rfl
          have okQ : Q.ok := by rw [eQ]; exact ⟨by rw [hf0]; exact HHL.out _, by rw [hf1]; exact HHL.out _, by rw [hf2]; exact HHL.out _, by rw [hf3]; exact HHL.out _⟩
          have kq := fun wz => quarter_any okQ wz
          rw [show Q.a = f0 by rw [eQ], show Q.b = f1 by rw [eQ], show Q.c = f2 by rw [eQ], show Q.d = f3 by rw [eQ]] at kq
          have KQ := Lib.hid kq
          have HQ := Lib.hid hQ
          clear hp0 hp1 hp2 hp3 hf0 hf1 hf2 hf3 cpl eQ okQ kq hQ
          refine wp_region_inv 25 [48, 49, 50, 51, 52, 53, 54, 55, 56, 57, 58, 59, 60, 61, 62, 63, 64, 65, 66, 67, 68, 69, 70, 71, 72] [.val (.slice (some ⟨gw, 0, none⟩) 16 cw), .val (.slice (some ⟨gi, 0, none⟩) 4 4), .val (.pointer (some ⟨gi, 0, none⟩)), .val (.int .i64 (p0 : Int)), .val (.pointer (some ⟨gw, p0, none⟩)), .val (.int .u32 (f0 : Int)), .val (.slice (some ⟨gw, 0, none⟩) 16 cw), .val (.slice (some ⟨gi, 0, none⟩) 4 4), .val (.pointer (some ⟨gi, 1, none⟩)), .val (.int .i64 (p1 : Int)), .val (.pointer (some ⟨gw, p1, none⟩)), .val (.int .u32 (f1 : Int)), .val (.slice (some ⟨gw, 0, none⟩) 16 cw), .val (.slice (some ⟨gi, 0, none⟩) 4 4), .val (.pointer (some ⟨gi, 2, none⟩)), .val (.int .i64 (p2 : Int)), .val (.pointer (some ⟨gw, p2, none⟩)), .val (.int .u32 (f2 : Int)), .val (.slice (some ⟨gw, 0, none⟩) 16 cw), .val (.slice (some ⟨gi, 0, none⟩) 4 4), .val (.pointer (some ⟨gi, 3, none⟩)), .val (.int .i64 (p3 : Int)), .val (.pointer (some ⟨gw, p3, none⟩)), .val (.int .u32 (f3 : Int)), .sat (qrow wb.heap.size Q.quarter) (qrow_keep _ _)] (fun wz => Below wb.heap.size wb wz) (by kernel_rfl) (by kernel_rfl) (fun wz wz' hz hb => hz.trans (hb.mono hz.size)) ((Below.refl _ _).drew) (fun u => by simp only [puts, List.foldl_cons, List.foldl_nil]; go_simp; exact rfl) ?_ ?_
          · simp only [List.take_succ_cons, List.take_zero]
            refine Obs.cons (fun u w hS hd => ?_) ?_
            · exact Gv.run (.slice (some ⟨gw, 0, none⟩) 16 cw) rfl (by go_simp) rfl
            refine Obs.cons (fun u w hS hd => ?_) ?_
            · exact Gv.run (.slice (some ⟨gi, 0, none⟩) 4 4) rfl (by go_simp) rfl
            refine Obs.cons (fun u w hS hd => ?_) ?_
            · have d49 : u 49 = .slice (some ⟨gi, 0, none⟩) 4 4 := dep hd 1 rfl
              rw [d49]
              exact Gv.run (.pointer (some ⟨gi, 0, none⟩)) rfl (by go_simp) rfl
            refine Obs.cons (fun u w hS hd => ?_) ?_
            · have d50 : u 50 = .pointer (some ⟨gi, 0, none⟩) := dep hd 2 rfl
              rw [d50]
              exact Gv.run (.int .i64 (p0 : Int)) rfl (by obtain ⟨c0, c1, c2, c3⟩ := CP.out w hS; go_simp) rfl
            refine Obs.cons (fun u w hS hd => ?_) ?_
            · have d48 : u 48 = .slice (some ⟨gw, 0, none⟩) 16 cw := dep hd 0 rfl
              have d51 : u 51 = .int .i64 (p0 : Int) := dep hd 3 rfl
              rw [d48, d51]
              exact Gv.run (.pointer (some ⟨gw, p0, none⟩)) rfl (by obtain ⟨h1, h2⟩ := L0.out; go_simp) rfl
            refine Obs.cons (fun u w hS hd => ?_) ?_
            · have d52 : u 52 = .pointer (some ⟨gw, p0, none⟩) := dep hd 4 rfl
              rw [d52]
              exact Gv.run (.int .u32 (f0 : Int)) rfl (by obtain ⟨c0, c1, c2, c3⟩ := CW.out w hS; go_simp) rfl
            refine Obs.cons (fun u w hS hd => ?_) ?_
            · exact Gv.run (.slice (some ⟨gw, 0, none⟩) 16 cw) rfl (by go_simp) rfl
            refine Obs.cons (fun u w hS hd => ?_) ?_
            · exact Gv.run (.slice (some ⟨gi, 0, none⟩) 4 4) rfl (by go_simp) rfl
            refine Obs.cons (fun u w hS hd => ?_) ?_
            · have d55 : u 55 = .slice (some ⟨gi, 0, none⟩) 4 4 := dep hd 7 rfl
              rw [d55]
              exact Gv.run (.pointer (some ⟨gi, 1, none⟩)) rfl (by go_simp) rfl
            refine Obs.cons (fun u w hS hd => ?_) ?_
            · have d56 : u 56 = .pointer (some ⟨gi, 1, none⟩) := dep hd 8 rfl
              rw [d56]
              exact Gv.run (.int .i64 (p1 : Int)) rfl (by obtain ⟨c0, c1, c2, c3⟩ := CP.out w hS; go_simp) rfl
            refine Obs.cons (fun u w hS hd => ?_) ?_
            · have d54 : u 54 = .slice (some ⟨gw, 0, none⟩) 16 cw := dep hd 6 rfl
              have d57 : u 57 = .int .i64 (p1 : Int) := dep hd 9 rfl
              rw [d54, d57]
              exact Gv.run (.pointer (some ⟨gw, p1, none⟩)) rfl (by obtain ⟨h1, h2⟩ := L1.out; go_simp) rfl
            refine Obs.cons (fun u w hS hd => ?_) ?_
            · have d58 : u 58 = .pointer (some ⟨gw, p1, none⟩) := dep hd 10 rfl
              rw [d58]
              exact Gv.run (.int .u32 (f1 : Int)) rfl (by obtain ⟨c0, c1, c2, c3⟩ := CW.out w hS; go_simp) rfl
            refine Obs.cons (fun u w hS hd => ?_) ?_
            · exact Gv.run (.slice (some ⟨gw, 0, none⟩) 16 cw) rfl (by go_simp) rfl
            refine Obs.cons (fun u w hS hd => ?_) ?_
            · exact Gv.run (.slice (some ⟨gi, 0, none⟩) 4 4) rfl (by go_simp) rfl
            refine Obs.cons (fun u w hS hd => ?_) ?_
            · have d61 : u 61 = .slice (some ⟨gi, 0, none⟩) 4 4 := dep hd 13 rfl
              rw [d61]
              exact Gv.run (.pointer (some ⟨gi, 2, none⟩)) rfl (by go_simp) rfl
            refine Obs.cons (fun u w hS hd => ?_) ?_
            · have d62 : u 62 = .pointer (some ⟨gi, 2, none⟩) := dep hd 14 rfl
              rw [d62]
              exact Gv.run (.int .i64 (p2 : Int)) rfl (by obtain ⟨c0, c1, c2, c3⟩ := CP.out w hS; go_simp) rfl
            refine Obs.cons (fun u w hS hd => ?_) ?_
            · have d60 : u 60 = .slice (some ⟨gw, 0, none⟩) 16 cw := dep hd 12 rfl
              have d63 : u 63 = .int .i64 (p2 : Int) := dep hd 15 rfl
              rw [d60, d63]
              exact Gv.run (.pointer (some ⟨gw, p2, none⟩)) rfl (by obtain ⟨h1, h2⟩ := L2.out; go_simp) rfl
            refine Obs.cons (fun u w hS hd => ?_) ?_
            · have d64 : u 64 = .pointer (some ⟨gw, p2, none⟩) := dep hd 16 rfl
              rw [d64]
              exact Gv.run (.int .u32 (f2 : Int)) rfl (by obtain ⟨c0, c1, c2, c3⟩ := CW.out w hS; go_simp) rfl
            refine Obs.cons (fun u w hS hd => ?_) ?_
            · exact Gv.run (.slice (some ⟨gw, 0, none⟩) 16 cw) rfl (by go_simp) rfl
            refine Obs.cons (fun u w hS hd => ?_) ?_
            · exact Gv.run (.slice (some ⟨gi, 0, none⟩) 4 4) rfl (by go_simp) rfl
            refine Obs.cons (fun u w hS hd => ?_) ?_
            · have d67 : u 67 = .slice (some ⟨gi, 0, none⟩) 4 4 := dep hd 19 rfl
              rw [d67]
              exact Gv.run (.pointer (some ⟨gi, 3, none⟩)) rfl (by go_simp) rfl
            refine Obs.cons (fun u w hS hd => ?_) ?_
            · have d68 : u 68 = .pointer (some ⟨gi, 3, none⟩) := dep hd 20 rfl
              rw [d68]
              exact Gv.run (.int .i64 (p3 : Int)) rfl (by obtain ⟨c0, c1, c2, c3⟩ := CP.out w hS; go_simp) rfl
            refine Obs.cons (fun u w hS hd => ?_) ?_
            · have d66 : u 66 = .slice (some ⟨gw, 0, none⟩) 16 cw := dep hd 18 rfl
              have d69 : u 69 = .int .i64 (p3 : Int) := dep hd 21 rfl
              rw [d66, d69]
              exact Gv.run (.pointer (some ⟨gw, p3, none⟩)) rfl (by obtain ⟨h1, h2⟩ := L3.out; go_simp) rfl
            refine Obs.cons (fun u w hS hd => ?_) ?_
            · have d70 : u 70 = .pointer (some ⟨gw, p3, none⟩) := dep hd 22 rfl
              rw [d70]
              exact Gv.run (.int .u32 (f3 : Int)) rfl (by obtain ⟨c0, c1, c2, c3⟩ := CW.out w hS; go_simp) rfl
            refine Obs.cons (fun u w hS hd => ?_) ?_
            · have d53 : u 53 = .int .u32 (f0 : Int) := dep hd 5 rfl
              have d59 : u 59 = .int .u32 (f1 : Int) := dep hd 11 rfl
              have d65 : u 65 = .int .u32 (f2 : Int) := dep hd 17 rfl
              have d71 : u 71 = .int .u32 (f3 : Int) := dep hd 23 rfl
              rw [d53, d59, d65, d71]
              refine Gv.call 33 #[.int .u32 (f0 : Int), .int .u32 (f1 : Int), .int .u32 (f2 : Int), .int .u32 (f3 : Int)] rfl (by go_simp) ((KQ.out w).mono ?_)
              rintro e w' ⟨A, c, rfl, ho, hb⟩
              exact ⟨_, rfl, ⟨A, c, rfl, ho.mono hS.size⟩, hb⟩
            exact Obs.nil
          intro u1 wc hS hd
          obtain ⟨Aq, cq, d72, oq⟩ : (Know.sat (qrow wb.heap.size Q.quarter) (qrow_keep _ _)).ok (u1 72) wc := hd 24 (by decide)
          rw [d72]
          obtain ⟨gq, rfl⟩ := own_at0 oq (by decide)
          have hgq := OwnF.ge oq
          have hgw := OwnF.lt oW
          have NQ := Lib.hid (show gw ≠ gq by omega)
          replace oS := OwnF.keep oS hS
          replace oW := OwnF.keep oW hS
          replace hP := Pl.keep hP hS
          replace hc := hc.trans (hS.mono hc.size)
          clear hS hd d72 hgq hgw CP CW KQ L0 L1 L2 L3 LN0 LN1 LN2 LN3 HP0 HP1 HP2 HP3 HF0 HF1 HF2 HF3
          simp only [List.drop_succ_cons, List.drop_zero]
          rw [← qrK_zero h m] at oW
          go_wp2_with fail
          go_loopw [14] (fun i wr => ∃ k : Nat, k ≤ 4 ∧ i = .int .i64 (k : Int) ∧ OwnF wr w.heap.size 34 (some ⟨gs, 0, none⟩) cs 16 (wvf st) ∧ OwnF wr w.heap.size 34 (some ⟨gw, 0, none⟩) cw 16 (wvf (qrK h m k)) ∧ OwnF wr wb.heap.size 34 (some ⟨gq, 0, none⟩) cq 4 (q4v Q.quarter) ∧ Pl wr B6 gp G ∧ Below w.heap.size w wr)
            (fun i _ => 4 - (intOf i).toNat)
          case atStart => exact ⟨0, by omega, rfl, oS, oW, oq, hP, hc⟩
          case round =>
            clear oS oW oq hP hc
            obtain ⟨k, hk, rfl, oS, oW, oq, hP, hc⟩ := hrel
            by_cases hlt3 : k < 4
            · have g4 : (k : Int) < 4 := by omega
              obtain ⟨pk, hpk⟩ : ∃ p, p = plN m k := ⟨_, rfl⟩
              have HPK := Lib.hid hpk
              have LK := Lib.hid (show (0 : Int) ≤ (k : Int) ∧ (k : Int) < 4 by omega)
              have LP := Lib.hid (show (0 : Int) ≤ (pk : Int) ∧ (pk : Int) < 16 by have := plN_lt m hlt2 k hlt3; omega)
              have LPN := Lib.hid (show pk < 16 by rw [hpk]; exact plN_lt m hlt2 k hlt3)
              obtain ⟨xk, hxk⟩ : ∃ x, x = Q.quarter.at k := ⟨_, rfl⟩
              have HXK := Lib.hid hxk
              obtain ⟨wd, ewd⟩ : ∃ wd : World, wd = wr := ⟨_, rfl⟩
              subst ewd
              have CP := Lib.hid (show ∀ wz, Below wd.heap.size wd wz → wz.cell? ⟨gi, k, none⟩ = some (.int .i64 (pk : Int)) ∧ wz.cell? ⟨gq, k, none⟩ = some (.int .u32 (xk : Int)) from fun wz hz => by
                have hQ := Pl.keep hP hz
                obtain ⟨_, _, _, c⟩ := hQ.2.2 m hlt2
                rw [← HGI.out] at c
                have c0 := c k hlt3
                unfold plv at c0
                rw [← hpk] at c0
                have c1 := OwnF.cell (OwnF.keep oq hz) hlt3
                unfold q4v at c1
                rw [← hxk] at c1
                exact ⟨c0, c1⟩)
              clear hpk hxk
              go_upto_region 18 with fail
              refine wp_region_inv 10 [77, 78, 79, 80, 81, 82, 83, 84, 85, 86] [.val (.slice (some ⟨gw, 0, none⟩) 16 cw), .val (.slice (some ⟨gi, 0, none⟩) 4 4), .val (.int .i64 (k : Int)), .val (.pointer (some ⟨gi, k, none⟩)), .val (.int .i64 (pk : Int)), .val (.slice (some ⟨gq, 0, none⟩) 4 cq), .val (.int .i64 (k : Int)), .val (.pointer (some ⟨gq, k, none⟩)), .val (.int .u32 (xk : Int)), .val (.pointer (some ⟨gw, pk, none⟩))] (fun wz => Below wd.heap.size wd wz) (by kernel_rfl) (by kernel_rfl) (fun wz wz' hz hb => hz.trans (hb.mono hz.size)) ((Below.refl _ _).drew) (fun u => by simp only [puts, List.foldl_cons, List.foldl_nil]; go_simp; exact rfl) ?_ ?_
              · simp only [List.take_succ_cons, List.take_zero]
                refine Obs.cons (fun u w hS hd => ?_) ?_
                · exact Gv.run (.slice (some ⟨gw, 0, none⟩) 16 cw) rfl (by go_simp) rfl
                refine Obs.cons (fun u w hS hd => ?_) ?_
                · exact Gv.run (.slice (some ⟨gi, 0, none⟩) 4 4) rfl (by go_simp) rfl
                refine Obs.cons (fun u w hS hd => ?_) ?_
                · exact Gv.run (.int .i64 (k : Int)) rfl (by go_simp) rfl
                refine Obs.cons (fun u w hS hd => ?_) ?_
                · have d78 : u 78 = .slice (some ⟨gi, 0, none⟩) 4 4 := dep hd 1 rfl
                  have d79 : u 79 = .int .i64 (k : Int) := dep hd 2 rfl
                  rw [d78, d79]
                  exact Gv.run (.pointer (some ⟨gi, k, none⟩)) rfl (by obtain ⟨h1, h2⟩ := LK.out; go_simp) rfl
                refine Obs.cons (fun u w hS hd => ?_) ?_
                · have d80 : u 80 = .pointer (some ⟨gi, k, none⟩) := dep hd 3 rfl
                  rw [d80]
                  exact Gv.run (.int .i64 (pk : Int)) rfl (by obtain ⟨c0, c1⟩ := CP.out w hS; go_simp) rfl
                refine Obs.cons (fun u w hS hd => ?_) ?_
                · exact Gv.run (.slice (some ⟨gq, 0, none⟩) 4 cq) rfl (by go_simp) rfl
                refine Obs.cons (fun u w hS hd => ?_) ?_
                · exact Gv.run (.int .i64 (k : Int)) rfl (by go_simp) rfl
                refine Obs.cons (fun u w hS hd => ?_) ?_
                · have d82 : u 82 = .slice (some ⟨gq, 0, none⟩) 4 cq := dep hd 5 rfl
                  have d83 : u 83 = .int .i64 (k : Int) := dep hd 6 rfl
                  rw [d82, d83]
                  exact Gv.run (.pointer (some ⟨gq, k, none⟩)) rfl (by obtain ⟨h1, h2⟩ := LK.out; go_simp) rfl
                refine Obs.cons (fun u w hS hd => ?_) ?_
                · have d84 : u 84 = .pointer (some ⟨gq, k, none⟩) := dep hd 7 rfl
                  rw [d84]
                  exact Gv.run (.int .u32 (xk : Int)) rfl (by obtain ⟨c0, c1⟩ := CP.out w hS; go_simp) rfl
                refine Obs.cons (fun u w hS hd => ?_) ?_
                · have d77 : u 77 = .slice (some ⟨gw, 0, none⟩) 16 cw := dep hd 0 rfl
                  have d81 : u 81 = .int .i64 (pk : Int) := dep hd 4 rfl
                  rw [d77, d81]
                  exact Gv.run (.pointer (some ⟨gw, pk, none⟩)) rfl (by obtain ⟨h1, h2⟩ := LP.out; go_simp) rfl
                exact Obs.nil
              intro u2 we hS hd
              have d85 : u2 85 = .int .u32 (xk : Int) := hd 8 (by decide)
              have d86 : u2 86 = .pointer (some ⟨gw, pk, none⟩) := hd 9 (by decide)
              rw [d85, d86]
              replace oS := OwnF.keep oS hS
              replace oW := OwnF.keep oW hS
              replace oq := OwnF.keep oq hS
              replace hP := Pl.keep hP hS
              replace hc := hc.trans (hS.mono hc.size)
              have ce := OwnF.cell oW LPN.out
              unfold wvf at ce
              have fe := OwnF.free oW pk
              have oS2 := OwnF.other oS (p := ⟨gw, pk, none⟩) NSW.out (.int .u32 (xk : Int))
              have oW2 : OwnF (we.setCell ⟨gw, pk, none⟩ (.int .u32 (xk : Int))) w.heap.size 34 (some ⟨gw, 0, none⟩) cw 16 (wvf (qrK h m (k + 1))) := OwnF.congr (OwnF.set_ oW pk (.int .u32 (xk : Int))) fun j _ => by
                unfold wvf
                rw [qrK_at, ← HPK.out, ← HQ.out, ← HXK.out]
                by_cases e : j = pk
                · rw [if_pos e, if_pos e]
                · rw [if_neg e, if_neg e]
              have oq2 := OwnF.other oq (p := ⟨gw, pk, none⟩) NQ.out (.int .u32 (xk : Int))
              have hP2 := Pl.set_ (k := pk) (v := .int .u32 (xk : Int)) hP NW6.out
              have hc2 := hc.setCell (p := ⟨gw, pk, none⟩) (OwnF.ge oW) (.int .u32 (xk : Int))
              clear hS hd d85 d86 oS oW oq hP hc
              simp only [List.drop_succ_cons, List.drop_zero]
              go_wp2_with fail
              go_roundw
              case rel => exact ⟨k + 1, by omega, by go_num, oS2, oW2, oq2, hP2, hc2⟩
              case measure => simp [intOf]; omega
            · obtain rfl : k = 4 := by omega
              have HH2 : qrK h m 4 = rowK f (m + 1) := by rw [HH.out]; exact rowK_succ _ _
              rw [HH2] at oW
              simp only [Int.cast_ofNat_Int]
              go_wp2_with fail
              go_roundw
              case rel => exact ⟨m + 1, by omega, by go_num, oS, oW, hP, hc⟩
              case measure => simp [intOf]; omega
        · obtain rfl : m = 8 := by omega
          have HH2 : rowK f 8 = rndK st (n + 1) := by rw [HF.out]; exact rndK_succ _ _
          rw [HH2] at oW
          simp only [Int.cast_ofNat_Int]
          go_wp2_with fail
          go_roundw
          case rel => exact ⟨n + 1, by omega, by go_num, oS, oW, hP, hc⟩
          case measure => simp [intOf]; omega
    · obtain rfl : n = 10 := by omega
      simp only [Int.cast_ofNat_Int]
      obtain ⟨w7, e7⟩ : ∃ wb : World, wb = wr := ⟨_, rfl⟩
      subst e7
      obtain ⟨R, hR⟩ : ∃ R, R = rndK st 10 := ⟨_, rfl⟩
      rw [← hR] at oW
      have HRL := Lib.hid (show ∀ k, R k < 4294967296 by rw [hR]; exact rndK_lt HST.out 10)
      have hsl := OwnF.lt oS
      have hwl := OwnF.lt oW
      have CS := Lib.hid (show ∀ wz, Below w7.heap.size w7 wz → ∀ k, k < 16 → wz.cell? ⟨gs, k, none⟩ = some (wvf st k) ∧ wz.cell? ⟨gw, k, none⟩ = some (wvf R k) from fun wz hz k hk => ⟨OwnF.cell (OwnF.keep oS hz) hk, OwnF.cell (OwnF.keep oW hz) hk⟩)
      have HRR := Lib.hid hR
      have HB7 := Lib.hid hc
      clear oS oW hP hc hsl hwl hR
      go_wp2_with fail
      go_loopw [15, 16] (fun v i wr => ∃ m : Nat, m ≤ 16 ∧ i = .int .i64 (m : Int) ∧ (∃ A c, v = .slice A (4 * m) c ∧ OwnF wr w7.heap.size 5 A c (4 * m) (obf (fun k => ad32 (R k) (st k)))) ∧ Below w7.heap.size w7 wr)
        (fun _ i _ => 16 - (intOf i).toNat)
      case atStart => exact ⟨0, by omega, rfl, ⟨none, 0, rfl, OwnF.nothing _ _ _ _⟩, Below.refl _ _⟩
      case round =>
        obtain ⟨m, hm, rfl, ⟨A, c, rfl, oo⟩, hb⟩ := hrel
        obtain ⟨wa, ewa⟩ : ∃ wa : World, wa = wr := ⟨_, rfl⟩
        subst ewa
        by_cases hlt : m < 16
        · have g1 : (m : Int) < 16 := by omega
          have LM := Lib.hid (show (0 : Int) ≤ (m : Int) ∧ (m : Int) < 16 by omega)
          obtain ⟨x, hx⟩ : ∃ x, x = R m := ⟨_, rfl⟩
          obtain ⟨y, hy⟩ : ∃ x, x = st m := ⟨_, rfl⟩
          obtain ⟨X, hX⟩ : ∃ z, z = ad32 x y := ⟨_, rfl⟩
          have HX := Lib.hid (show X = ad32 (R m) (st m) by rw [hX, hx, hy])
          have HXL := Lib.hid (show X < 4294967296 by rw [hX]; exact ad32_lt _ _)
          have QX := Lib.hid (show IntKind.u32.wrap ((x : Int) + (y : Int)) = (X : Int) by rw [IntKind.wrap_u32, hX]; unfold ad32; omega)
          have CM := Lib.hid (show ∀ wz, Below wa.heap.size wa wz → wz.cell? ⟨gw, m, none⟩ = some (.int .u32 (x : Int)) ∧ wz.cell? ⟨gs, m, none⟩ = some (.int .u32 (y : Int)) from fun wz hz => by
            obtain ⟨c1, c2⟩ := CS.out wz (hb.trans (hz.mono hb.size)) m hlt
            unfold wvf at c1 c2
            rw [hx, hy]
            exact ⟨c2, c1⟩)
          obtain ⟨l, hl⟩ : ∃ l, l = 4 * m := ⟨_, rfl⟩
          rw [← hl] at oo ⊢
          have HL := Lib.hid hl
          clear hx hy hX hl
          go_upto_region 23 with fail
          refine wp_region_inv 9 [91, 92, 93, 94, 95, 96, 97, 98, 99] [.val (.slice (some ⟨gw, 0, none⟩) 16 cw), .val (.int .i64 (m : Int)), .val (.pointer (some ⟨gw, m, none⟩)), .val (.int .u32 (x : Int)), .val (.slice (some ⟨gs, 0, none⟩) 16 cs), .val (.int .i64 (m : Int)), .val (.pointer (some ⟨gs, m, none⟩)), .val (.int .u32 (y : Int)), .val (.int .u32 (X : Int))] (fun wz => Below wa.heap.size wa wz) (by kernel_rfl) (by kernel_rfl) (fun wz wz' hz hb => hz.trans (hb.mono hz.size)) ((Below.refl _ _).drew) (fun u => by simp only [puts, List.foldl_cons, List.foldl_nil]; go_simp; exact rfl) ?_ ?_
          · simp only [List.take_succ_cons, List.take_zero]
            refine Obs.cons (fun u w hS hd => ?_) ?_
            · exact Gv.run (.slice (some ⟨gw, 0, none⟩) 16 cw) rfl (by go_simp) rfl
            refine Obs.cons (fun u w hS hd => ?_) ?_
            · exact Gv.run (.int .i64 (m : Int)) rfl (by go_simp) rfl
            refine Obs.cons (fun u w hS hd => ?_) ?_
            · have d91 : u 91 = .slice (some ⟨gw, 0, none⟩) 16 cw := dep hd 0 rfl
              have d92 : u 92 = .int .i64 (m : Int) := dep hd 1 rfl
              rw [d91, d92]
              exact Gv.run (.pointer (some ⟨gw, m, none⟩)) rfl (by obtain ⟨h1, h2⟩ := LM.out; go_simp) rfl
            refine Obs.cons (fun u w hS hd => ?_) ?_
            · have d93 : u 93 = .pointer (some ⟨gw, m, none⟩) := dep hd 2 rfl
              rw [d93]
              exact Gv.run (.int .u32 (x : Int)) rfl (by obtain ⟨c0, c1⟩ := CM.out w hS; go_simp) rfl
            refine Obs.cons (fun u w hS hd => ?_) ?_
            · exact Gv.run (.slice (some ⟨gs, 0, none⟩) 16 cs) rfl (by go_simp) rfl
            refine Obs.cons (fun u w hS hd => ?_) ?_
            · exact Gv.run (.int .i64 (m : Int)) rfl (by go_simp) rfl
            refine Obs.cons (fun u w hS hd => ?_) ?_
            · have d95 : u 95 = .slice (some ⟨gs, 0, none⟩) 16 cs := dep hd 4 rfl
              have d96 : u 96 = .int .i64 (m : Int) := dep hd 5 rfl
              rw [d95, d96]
              exact Gv.run (.pointer (some ⟨gs, m, none⟩)) rfl (by obtain ⟨h1, h2⟩ := LM.out; go_simp) rfl
            refine Obs.cons (fun u w hS hd => ?_) ?_
            · have d97 : u 97 = .pointer (some ⟨gs, m, none⟩) := dep hd 6 rfl
              rw [d97]
              exact Gv.run (.int .u32 (y : Int)) rfl (by obtain ⟨c0, c1⟩ := CM.out w hS; go_simp) rfl
            refine Obs.cons (fun u w hS hd => ?_) ?_
            · have d94 : u 94 = .int .u32 (x : Int) := dep hd 3 rfl
              have d98 : u 98 = .int .u32 (y : Int) := dep hd 7 rfl
              rw [d94, d98]
              have hq := QX.out
              exact Gv.run (.int .u32 (X : Int)) rfl (by go_simp) rfl
            exact Obs.nil
          intro u3 wb hS hd
          have d99 : u3 99 = .int .u32 (X : Int) := hd 8 (by decide)
          rw [d99]
          replace oo := OwnF.keep oo hS
          replace hb := hb.trans (hS.mono hb.size)
          clear hS hd d99 CM QX
          simp only [List.drop_succ_cons, List.drop_zero]
          go_wp2_with fail
          go_loopw [15, 17, 18] (fun v y i wr => ∃ k : Nat, k ≤ 4 ∧ i = .int .i64 (k : Int) ∧ y = .int .u32 ((dvd8 X k : Nat) : Int) ∧ (∃ A c, v = .slice A (l + k) c ∧ OwnF wr w7.heap.size 5 A c (l + k) (obf (fun k => ad32 (R k) (st k)))) ∧ Below w7.heap.size w7 wr)
            (fun _ _ i _ => 4 - (intOf i).toNat)
          case atStart => exact ⟨0, by omega, rfl, by rw [dvd8_zero], ⟨A, c, rfl, oo⟩, hb⟩
          case round =>
            clear oo hb
            obtain ⟨k, hk, rfl, rfl, ⟨A2, c2, rfl, oo⟩, hb⟩ := hrel
            obtain ⟨wc, ewc⟩ : ∃ wa : World, wa = wr := ⟨_, rfl⟩
            subst ewc
            by_cases hlt3 : k < 4
            · have g4 : (k : Int) < 4 := by omega
              have hbyte := byte_at (f := fun k => ad32 (R k) (st k)) (k := k) HL.out hlt3
              simp only [← HX.out] at hbyte
              obtain ⟨y, hy⟩ : ∃ y, y = dvd8 X k := ⟨_, rfl⟩
              obtain ⟨y2, hy2⟩ : ∃ y, y = dvd8 X (k + 1) := ⟨_, rfl⟩
              have hyl : y < 4294967296 := by rw [hy]; exact dvd8_lt HXL.out k
              have hys : y2 = y / 256 := by rw [hy2, hy]; exact dvd8_succ X k
              rw [← hy] at hbyte ⊢
              obtain ⟨z, hz⟩ : ∃ z, z = y % 256 := ⟨_, rfl⟩
              rw [← hz] at hbyte
              have hz2 : z < 256 := by rw [hz]; exact Nat.mod_lt _ (by decide)
              have q1 : (y : Int).tmod 256 = (z : Int) := by rw [Int.tmod_eq_emod_of_nonneg (by omega)]; omega
              have q2 : (y : Int).tdiv 256 = (y2 : Int) := by rw [Int.tdiv_eq_ediv_of_nonneg (by omega)]; omega
              have q3 : IntKind.u8.wrap (z : Int) = (z : Int) := by rw [IntKind.wrap_u8]; omega
              have q4 : IntKind.u32.wrap (z : Int) = (z : Int) := by rw [IntKind.wrap_u32]; omega
              have q5 : IntKind.u32.wrap (y2 : Int) = (y2 : Int) := by rw [IntKind.wrap_u32]; omega
              have HV := Lib.hid hbyte
              have HY2 := Lib.hid hy2
              obtain ⟨l1, hl1⟩ : ∃ x, x = l + k := ⟨_, rfl⟩
              have HLL := Lib.hid (show l1 ≤ 100 by have := HL.out; omega)
              have HL1 := Lib.hid hl1
              rw [← hl1] at oo HV ⊢
              have hbs := hb.size
              clear hbyte hy hy2 hyl hys hz hz2 hl1
              go_wp2_with (at_builtin; refine wpList_appF1 _ rfl (.tmp 104) (.tmp 108) _ rfl w7.heap.size 5 i1 _ Tryd.underlying22 ji jz0 jz1 jz2 (by decide) rfl rfl oo HV.out rfl (by unfold obf; rfl) (by have := HLL.out; omega) (by have := HLL.out; omega) hbs ?_; intro A' c' w' ho' hb')
              go_roundw
              case rel => exact ⟨k + 1, by omega, by go_num, by rw [HY2.out], ⟨A', c', by rw [HL1.out]; rfl, by rw [HL1.out] at ho'; exact ho'⟩, hb.trans hb'⟩
              case measure => simp [intOf]; omega
            · obtain rfl : k = 4 := by omega
              simp only [Int.cast_ofNat_Int]
              go_wp2_with fail
              go_roundw
              case rel => exact ⟨m + 1, by omega, by go_num, ⟨A2, c2, by rw [HL.out]; rfl, by rw [HL.out] at oo; exact oo⟩, hb⟩
              case measure => simp [intOf]; omega
        · obtain rfl : m = 16 := by omega
          simp only [Int.cast_ofNat_Int]
          go_wp2_with fail
          go_ret
          have ho := own_gen oo
          rw [HRR.out] at ho
          exact ⟨A, c, rfl, ho.mono HB7.out.size, HB7.out.trans (hb.mono HB7.out.size)⟩
end
end Go.Proofs.YtmhfkabpfkoocaaDoor
