/-
  Layer 10's document: Xor. By an AI agent.
-/
import Derived.Test.YtmhfkabpfkoocaaDoorY4
import Derived.Test.YtmhfkabpfkoocaaDoorApp
namespace Go.Proofs.YtmhfkabpfkoocaaDoor
open Go Go.RowKit
set_option maxRecDepth 20000
/-! Bytes exclusive-ored with blocks. -/
/-- the byte of the blocks behind ctr at i. -/
def ksN (key nonce : List UInt8) (ctr i : Nat) : Nat := nth (blkB key nonce (ctr + i / 64)) (i % 64)
theorem ksN_lt (key nonce : List UInt8) (ctr i : Nat) : ksN key nonce ctr i < 256 := nth_lt _ _
def xrb (key nonce : List UInt8) (ctr : Nat) (bs : List UInt8) (i : Nat) : UInt8 := UInt8.ofNat (nth bs i ^^^ ksN key nonce ctr i)
def xrN (key nonce : List UInt8) (ctr : Nat) (bs : List UInt8) : List UInt8 := gen (xrb key nonce ctr bs) bs.length
theorem xrN_len (key nonce : List UInt8) (ctr : Nat) (bs : List UInt8) : (xrN key nonce ctr bs).length = bs.length := gen_length _ _
/-- how many blocks so many bytes want. -/
def nblk (n : Nat) : Nat := n / 64 + if n % 64 = 0 then 0 else 1
theorem nblk_le {n ctr k : Nat} (h : nblk n ≤ 4294967296 - ctr) (hk : k < n) : ctr + k / 64 < 4294967296 := by
  unfold nblk at h
  split at h <;> omega
theorem xrb_val {key nonce bs : List UInt8} {ctr i : Nat} {x y : Nat} (hx : x = nth bs i) (hy : y = ksN key nonce ctr i) : bits .xor .u8 (x : Int) (y : Int) = (((xrb key nonce ctr bs i).toNat : Nat) : Int) := by
  have h1 : x < 256 := hx ▸ nth_lt _ _
  have h2 : y < 256 := hy ▸ ksN_lt _ _ _ _
  rw [u8_xor _ _ (by omega) (by omega) (by omega) (by omega)]
  have h3 : x ^^^ y < 256 := Nat.xor_lt_two_pow (n := 8) h1 h2
  unfold xrb
  rw [← hx, ← hy, UInt8.toNat_ofNat_of_lt' (by simpa using h3)]
  simp
def xrv (key nonce : List UInt8) (ctr : Nat) (bs : List UInt8) (i : Nat) : Value := .int .u8 (((xrb key nonce ctr bs i).toNat : Nat) : Int)
theorem own_genX {w : World} {B c n : Nat} {e : TypeId} {A : Option Addr} {key nonce bs : List UInt8} {ctr : Nat} (h : OwnF w B e A c n (xrv key nonce ctr bs)) : Own w B e A c (gen (xrb key nonce ctr bs) n) := by
  unfold OwnF at h
  unfold Own
  rw [gen_length]
  have : (List.range n).map (xrv key nonce ctr bs) = (gen (xrb key nonce ctr bs) n).map bv := by unfold gen; rw [List.map_map]; rfl
  rw [← this]
  exact h
theorem rxor_arg {kl nl k0 k1 ctr n c2 : Nat} (h : kl ≠ 32 ∨ nl ≠ 12) {A0 A1 A2 : Option Addr} (w : World) :
    Calls Tryd.prog 19 #[.slice A0 kl k0, .slice A1 nl k1, .int .u32 (ctr : Int), .slice A2 n c2] w fun e w' => e = .returned (.tuple #[.slice none 0 0, .int .i64 1]) ∧ w = w' := by
  by_cases h1 : kl = 32
  · have h2 : nl ≠ 12 := by omega
    have g1 : ((kl : Int) != 32) = false := by simp; omega
    have g2 : ((nl : Int) != 12) = true := by simp; omega
    go_enter Tryd.func19, Tryd.ntmps19
    go_wp2_with fail
    go_returns
    exact ⟨rfl, rfl⟩
  · have g1 : ((kl : Int) != 32) = true := by simp; omega
    go_enter Tryd.func19, Tryd.ntmps19
    go_wp2_with fail
    go_returns
    exact ⟨rfl, rfl⟩
theorem rxor_long {ctr n k0 k1 c2 : Nat} (h : ¬ nblk n ≤ 4294967296 - ctr) (hc : ctr < 4294967296) (hn : n ≤ 1000000000) {A0 A1 A2 : Option Addr} (w : World) :
    Calls Tryd.prog 19 #[.slice A0 32 k0, .slice A1 12 k1, .int .u32 (ctr : Int), .slice A2 n c2] w fun e w' => e = .returned (.tuple #[.slice none 0 0, .int .i64 2]) ∧ w = w' := by
  have g1 : (n : Int).tdiv 64 = ((n / 64 : Nat) : Int) := by rw [Int.tdiv_eq_ediv_of_nonneg (by omega)]; rfl
  have g2 : (n : Int).tmod 64 = ((n % 64 : Nat) : Int) := by rw [Int.tmod_eq_emod_of_nonneg (by omega)]; rfl
  unfold nblk at h
  obtain ⟨q, hq⟩ : ∃ q, q = n / 64 := ⟨_, rfl⟩
  obtain ⟨r, hr⟩ : ∃ r, r = n % 64 := ⟨_, rfl⟩
  rw [← hq] at g1 h
  rw [← hr] at g2 h
  have hq2 : q ≤ 1000000000 := by omega
  have g6 : IntKind.i64.wrap (4294967296 - (ctr : Int)) = 4294967296 - (ctr : Int) := by rw [IntKind.wrap_i64]; omega
  have HQ := Lib.hid hq
  have HR := Lib.hid hr
  clear hq hr
  by_cases h0 : r = 0
  · have g3 : ¬ (0 : Int) < (r : Int) := by omega
    rw [if_pos h0] at h
    have g5 : 4294967296 - (ctr : Int) < (q : Int) := by omega
    clear h h0
    go_enter Tryd.func19, Tryd.ntmps19
    go_wp2_with fail
    go_returns
    exact ⟨rfl, rfl⟩
  · have g3 : (0 : Int) < (r : Int) := by omega
    rw [if_neg h0] at h
    have g4 : IntKind.i64.wrap ((q : Int) + 1) = (q : Int) + 1 := by rw [IntKind.wrap_i64]; omega
    have g5 : 4294967296 - (ctr : Int) < (q : Int) + 1 := by omega
    clear h h0
    go_enter Tryd.func19, Tryd.ntmps19
    go_wp2_with fail
    go_returns
    exact ⟨rfl, rfl⟩
section
attribute [local irreducible] xrb xrv ksN blkB
set_option maxHeartbeats 3200000 in
theorem rxor_any {key nonce bs : List UInt8} {ctr : Nat} (hk : key.length = 32) (hn : nonce.length = 12) (hctr : ctr < 4294967296) (hbk : nblk bs.length ≤ 4294967296 - ctr) (hl : bs.length ≤ 100000) {A0 A1 A2 : Option Addr} {B k0 k1 c2 : Nat} (w : World) (r0 : Rd w B A0 k0 key) (r1 : Rd w B A1 k1 nonce) (r2 : Rd w B A2 c2 bs) (hB : B ≤ w.heap.size) :
    Calls Tryd.prog 19 #[.slice A0 32 k0, .slice A1 12 k1, .int .u32 (ctr : Int), .slice A2 bs.length c2] w fun e w' => ∃ A c, e = .returned (.tuple #[.slice A bs.length c, .int .i64 0]) ∧ Own w' w.heap.size 5 A c (xrN key nonce ctr bs) ∧ Below w.heap.size w w' := by
  obtain ⟨i1, ji, jz0, jz1, jz2⟩ := info_parts infoU8y
  obtain ⟨L, hL⟩ : ∃ L, L = bs.length := ⟨_, rfl⟩
  have HXR := Lib.hid (show xrN key nonce ctr bs = gen (xrb key nonce ctr bs) L by rw [hL]; rfl)
  rw [HXR.out]
  rw [← hL] at hl hbk ⊢
  have HBK := Lib.hid (fun k (h : k < L) => nblk_le (n := L) hbk h)
  have HL := Lib.hid hL
  have HK := Lib.hid hk
  have HN := Lib.hid hn
  have HR0 := Lib.hid r0
  have HR1 := Lib.hid r1
  have HR2' := Lib.hid r2
  have HC := Lib.hid (fun (q : Nat) (hq : ctr + q < 4294967296) v (hv : Below w.heap.size w v) => block_any hk hn hq v (r0.keep (hv.mono hB)) (r1.keep (hv.mono hB)) (Nat.le_trans hB hv.size))
  have g1 : (L : Int).tdiv 64 = ((L / 64 : Nat) : Int) := by rw [Int.tdiv_eq_ediv_of_nonneg (by omega)]; rfl
  have g2 : (L : Int).tmod 64 = ((L % 64 : Nat) : Int) := by rw [Int.tmod_eq_emod_of_nonneg (by omega)]; rfl
  unfold nblk at hbk
  obtain ⟨q, hq⟩ : ∃ q, q = L / 64 := ⟨_, rfl⟩
  obtain ⟨r, hr⟩ : ∃ r, r = L % 64 := ⟨_, rfl⟩
  rw [← hq] at g1 hbk
  rw [← hr] at g2 hbk
  have hq2 : q ≤ 1000000000 := by omega
  have g6 : IntKind.i64.wrap (4294967296 - (ctr : Int)) = 4294967296 - (ctr : Int) := by rw [IntKind.wrap_i64]; omega
  have g4 : IntKind.i64.wrap ((q : Int) + 1) = (q : Int) + 1 := by rw [IntKind.wrap_i64]; omega
  have HQ := Lib.hid hq
  have HR := Lib.hid hr
  obtain ⟨y, hy⟩ : ∃ y, y = if r = 0 then q else q + 1 := ⟨_, rfl⟩
  have g5 : ¬ 4294967296 - (ctr : Int) < (y : Int) := by
    rw [hy]; split at hbk <;> rename_i h0
    · rw [if_pos h0]; omega
    · rw [if_neg h0]; omega
  have HY := Lib.hid hy
  clear hq hr hy hL hk hn r0 r1 r2 hbk
  go_enter Tryd.func19, Tryd.ntmps19
  go_upto_if 28 with fail
  go_cut [10] from 25 (fun x wx => x = .int .i64 (y : Int) ∧ w = wx)
  case first =>
    by_cases h0 : r = 0
    · have g3 : ¬ (0 : Int) < (r : Int) := by omega
      have he := Lib.hid (show q = y by rw [HY.out, if_pos h0])
      clear h0
      go_wp2_with fail
      go_meet
      exact ⟨by rw [he.out], rfl⟩
    · have g3 : (0 : Int) < (r : Int) := by omega
      have HE := Lib.hid (show (q : Int) + 1 = (y : Int) by rw [HY.out, if_neg h0]; omega)
      clear h0
      go_wp2_with fail
      go_meet
      exact ⟨by rw [HE.out], rfl⟩
  case rest =>
    obtain ⟨rfl, rfl⟩ := hcut
    clear g1 g2 g4
    go_wp2_with fail
    go_loopw [11, 12, 13] (fun v x i wr => ∃ n : Nat, n ≤ L ∧ i = .int .i64 (n : Int) ∧ (∃ A c, v = .slice A n c ∧ OwnF wr w.heap.size 5 A c n (xrv key nonce ctr bs) ∧ (n % 64 = 0 ∨ ∃ A2 c2, x = .slice A2 64 c2 ∧ Rd wr wr.heap.size A2 c2 (blkB key nonce (ctr + n / 64)) ∧ Offs A A2)) ∧ Below w.heap.size w wr)
      (fun _ _ i _ => L - (intOf i).toNat)
    case atStart => exact ⟨0, Nat.zero_le _, rfl, ⟨none, 0, rfl, OwnF.nothing _ _ _ _, .inl rfl⟩, Below.refl _ _⟩
    case round =>
      obtain ⟨n, hnl, rfl, ⟨A, c, rfl, os, hx⟩, hb⟩ := hrel
      by_cases hlt : n < L
      · have g1 : (n : Int) < (L : Int) := by omega
        obtain ⟨q, hq⟩ : ∃ q, q = n / 64 := ⟨_, rfl⟩
        obtain ⟨r, hr⟩ : ∃ r, r = n % 64 := ⟨_, rfl⟩
        have Q2 := Lib.hid (show (n : Int).tmod 64 = (r : Int) by rw [Int.tmod_eq_emod_of_nonneg (by omega)]; omega)
        have hr64 : r < 64 := by omega
        have hcq := HBK.out n hlt
        rw [← hq] at hcq hx
        rw [← hr] at hx
        have HX := Lib.hid hx
        have HCQ := Lib.hid hcq
        have HQ2 := Lib.hid hq
        have HR2 := Lib.hid hr
        have g2 := Q2.out
        clear hq hr hx hcq
        go_upto_if 44 with fail
        go_cut [12] from 36 to 65 (fun x wx => ∃ A2 c2, x = .slice A2 64 c2 ∧ Rd wx wx.heap.size A2 c2 (blkB key nonce (ctr + q)) ∧ Offs A A2 ∧ Below wr.heap.size wr wx)
        case first =>
          by_cases h0 : r = 0
          · have g3 : ((r : Int) == 0) = true := by simp [h0]
            obtain ⟨cq, hcq2⟩ : ∃ x, x = ctr + q := ⟨_, rfl⟩
            have K := Lib.hid (show _ from HC.out q HCQ.out wr hb)
            have hqq := HCQ.out
            rw [← hcq2] at K hqq
            have hnn := HQ2.out
            have q3 : (n : Int).tdiv 64 = (q : Int) := by rw [Int.tdiv_eq_ediv_of_nonneg (by omega)]; omega
            have q4 : wrap64 (q : Int) = (q : Int) := by unfold wrap64; omega
            have q5 : ((ctr : Int) + (q : Int)) % 4294967296 = (cq : Int) := by omega
            have HCQ2 := Lib.hid hcq2
            clear h0 hqq hnn hcq2
            go_wp2_with fail
            go_at_call 22
            with_reducible refine K.out.mono ?_
            rintro e v1 ⟨A5, c5, rfl, ob, hb5⟩
            clear q3 q4 q5
            go_wp2_with fail
            go_meet
            have hle := ob.rd
            rw [HCQ2.out] at hle
            exact ⟨A5, c5, rfl, hle, fun ad ad2 e1 e2 => by have := (OwnF.blk os ad e1).2; have := (Own.blk ob ad2 e2).1; omega, hb5⟩
          · have g3 : ((r : Int) == 0) = false := by simp [h0]
            obtain ⟨A5, c5, rfl, hx, hoff⟩ : ∃ A2 c2, u12 = .slice A2 64 c2 ∧ Rd wr wr.heap.size A2 c2 (blkB key nonce (ctr + q)) ∧ Offs A A2 := by
              rcases HX.out with h | h
              · exact absurd h h0
              · exact h
            clear h0
            go_wp2_with fail
            go_meet
            exact ⟨A5, c5, rfl, hx, hoff, Below.refl _ _⟩
        case rest =>
          obtain ⟨A5, c5, rfl, hx, hoff, hbv⟩ := hcut
          have HOFF := Lib.hid hoff
          clear hoff
          obtain ⟨v6, ev6⟩ : ∃ v, v = wc := ⟨_, rfl⟩
          rw [← ev6] at hx hbv ⊢
          clear ev6
          have os2 := OwnF.keep os hbv
          have hbz := hb.trans (hbv.mono hb.size)
          obtain ⟨b5, o5, rfl, hb5, _⟩ := hx.at_ (k := r) (by rw [blkB_len]; exact hr64)
          have HB5 := Lib.hid hb5
          clear hb5
          obtain ⟨b1, o1, rfl, _, _⟩ := HR2'.out.at_ (k := n) (by rw [← HL.out]; exact hlt)
          obtain ⟨x, ex⟩ : ∃ x, x = nth bs n := ⟨_, rfl⟩
          obtain ⟨y8, ey⟩ : ∃ x, x = nth (blkB key nonce (ctr + q)) r := ⟨_, rfl⟩
          have hcc : ∀ wz, Below v6.heap.size v6 wz → wz.cell? ⟨b1, o1 + n, none⟩ = some (.int .u8 (x : Int)) ∧ wz.cell? ⟨b5, o5 + r, none⟩ = some (.int .u8 (y8 : Int)) := fun wz hz => by
            obtain ⟨b2, o2, e2, _, c2⟩ := (HR2'.out.keep ((hbz.trans (hz.mono hbz.size)).mono hB)).at_ (k := n) (by rw [← HL.out]; exact hlt)
            simp only [Option.some.injEq, Addr.mk.injEq] at e2
            obtain ⟨rfl, rfl, _⟩ := e2
            obtain ⟨b3, o3, e3, _, c3⟩ := (hx.keep hz).at_ (k := r) (by rw [blkB_len]; exact hr64)
            simp only [Option.some.injEq, Addr.mk.injEq] at e3
            obtain ⟨rfl, rfl, _⟩ := e3
            exact ⟨by rw [ex]; exact c2, by rw [ey]; exact c3⟩
          have HCC := Lib.hid hcc
          obtain ⟨z, ez⟩ : ∃ z, z = (xrb key nonce ctr bs n).toNat := ⟨_, rfl⟩
          have QX := Lib.hid (show bits .xor .u8 (x : Int) (y8 : Int) = (z : Int) by rw [ez]; exact xrb_val ex (by rw [ey]; unfold ksN; rw [HQ2.out, HR2.out]))
          have HV := Lib.hid (show Value.int .u8 (z : Int) = xrv key nonce ctr bs n by rw [ez]; unfold xrv; rfl)
          have I0 := Lib.hid (show (0 : Int) ≤ (n : Int) ∧ (n : Int) < (L : Int) by omega)
          have I1 := Lib.hid (show (0 : Int) ≤ (r : Int) ∧ (r : Int) < 64 by omega)
          have HX5 := Lib.hid hx
          clear ex ey ez hcc hx hbv os hb g1 g2
          go_upto_region 14 with fail
          refine wp_region_inv 12 [53, 54, 55, 56, 57, 58, 59, 60, 61, 62, 63, 64] [.val (.slice A n c), .val (.slice (some ⟨b1, o1, none⟩) L c2), .val (.int .i64 (n : Int)), .val (.pointer (some ⟨b1, o1 + n, none⟩)), .val (.int .u8 (x : Int)), .val (.slice (some ⟨b5, o5, none⟩) 64 c5), .val (.int .i64 (n : Int)), .val (.int .i64 (r : Int)), .val (.pointer (some ⟨b5, o5 + r, none⟩)), .val (.int .u8 (y8 : Int)), .val (.int .u8 (z : Int)), .one (.int .u8 (z : Int))] (fun wz => Below v6.heap.size v6 wz) (by kernel_rfl) (by kernel_rfl) (fun wz wz' hz hb => hz.trans (hb.mono hz.size)) ((Below.refl _ _).drew) (fun u => by simp only [puts, List.foldl_cons, List.foldl_nil]; go_simp; exact rfl) ?_ ?_
          · simp only [List.take_succ_cons, List.take_zero]
            refine Obs.cons (fun u w hS hd => ?_) ?_
            · exact Gv.run (.slice A n c) rfl (by go_simp) rfl
            refine Obs.cons (fun u w hS hd => ?_) ?_
            · exact Gv.run (.slice (some ⟨b1, o1, none⟩) L c2) rfl (by go_simp) rfl
            refine Obs.cons (fun u w hS hd => ?_) ?_
            · exact Gv.run (.int .i64 (n : Int)) rfl (by go_simp) rfl
            refine Obs.cons (fun u w hS hd => ?_) ?_
            · have d54 : u 54 = .slice (some ⟨b1, o1, none⟩) L c2 := dep hd 1 rfl
              have d55 : u 55 = .int .i64 (n : Int) := dep hd 2 rfl
              rw [d54, d55]
              exact Gv.run (.pointer (some ⟨b1, o1 + n, none⟩)) rfl (by obtain ⟨h1, h2⟩ := I0.out; go_simp) rfl
            refine Obs.cons (fun u w hS hd => ?_) ?_
            · have d56 : u 56 = .pointer (some ⟨b1, o1 + n, none⟩) := dep hd 3 rfl
              rw [d56]
              exact Gv.run (.int .u8 (x : Int)) rfl (by obtain ⟨c0, c1⟩ := HCC.out w hS; go_simp) rfl
            refine Obs.cons (fun u w hS hd => ?_) ?_
            · exact Gv.run (.slice (some ⟨b5, o5, none⟩) 64 c5) rfl (by go_simp) rfl
            refine Obs.cons (fun u w hS hd => ?_) ?_
            · exact Gv.run (.int .i64 (n : Int)) rfl (by go_simp) rfl
            refine Obs.cons (fun u w hS hd => ?_) ?_
            · have d59 : u 59 = .int .i64 (n : Int) := dep hd 6 rfl
              rw [d59]
              exact Gv.run (.int .i64 (r : Int)) rfl (by have hq := Q2.out; go_simp) rfl
            refine Obs.cons (fun u w hS hd => ?_) ?_
            · have d58 : u 58 = .slice (some ⟨b5, o5, none⟩) 64 c5 := dep hd 5 rfl
              have d60 : u 60 = .int .i64 (r : Int) := dep hd 7 rfl
              rw [d58, d60]
              exact Gv.run (.pointer (some ⟨b5, o5 + r, none⟩)) rfl (by obtain ⟨h1, h2⟩ := I1.out; go_simp) rfl
            refine Obs.cons (fun u w hS hd => ?_) ?_
            · have d61 : u 61 = .pointer (some ⟨b5, o5 + r, none⟩) := dep hd 8 rfl
              rw [d61]
              exact Gv.run (.int .u8 (y8 : Int)) rfl (by obtain ⟨c0, c1⟩ := HCC.out w hS; go_simp) rfl
            refine Obs.cons (fun u w hS hd => ?_) ?_
            · have d57 : u 57 = .int .u8 (x : Int) := dep hd 4 rfl
              have d62 : u 62 = .int .u8 (y8 : Int) := dep hd 9 rfl
              rw [d57, d62]
              exact Gv.run (.int .u8 (z : Int)) rfl (by have hq := QX.out; go_simp) rfl
            refine Obs.cons (fun u w hS hd => ?_) ?_
            · have d63 : u 63 = .int .u8 (z : Int) := dep hd 10 rfl
              rw [d63]
              refine Gv.make (.slice (some ⟨w.heap.size, 0, none⟩) 1 1) (w.alloc (.cells #[.int .u8 (z : Int)] 5)) rfl (by go_simp) ⟨_, rfl, ?_⟩ ((Below.refl _ w).alloc (Nat.le_refl _) _)
              exact (OwnF.lit (w := w) 5 (Nat.le_refl _) #[.int .u8 (z : Int)] 1 (fun _ => .int .u8 (z : Int)) (by decide) rfl).rd
            exact Obs.nil
          intro u wz hS hd
          have d53 : u 53 = .slice A n c := hd 0 (by decide)
          obtain ⟨A9, d64, r64⟩ : ∃ A, u 64 = .slice A 1 1 ∧ RdF wz wz.heap.size A 1 1 (fun _ => .int .u8 (z : Int)) := hd 11 (by decide)
          rw [d53, d64]
          clear hd d53 d64
          replace os2 := OwnF.keep os2 hS
          replace hbz := hbz.trans (hS.mono hbz.size)
          simp only [List.drop_succ_cons, List.drop_zero]
          go_wp2_with (at_builtin; refine wpList_appG _ rfl (.tmp 53) (.tmp 64) _ rfl w.heap.size 5 i1 _ Tryd.underlying22 ji jz0 jz1 jz2 rfl rfl os2 rfl r64 (fun _ _ => rfl) (by omega) (by omega) hbz.size ?_; intro A' c' w' ho' hb' hgr)
          have hre : OwnF w' w.heap.size 5 A' c' (n + 1) (xrv key nonce ctr bs) := OwnF.congr ho' fun k hk => by
            by_cases h : k < n
            · rw [if_pos h]
            · rw [if_neg h, show k = n by omega, HV.out]
          have h5 := HX5.out.keep hS
          refine ⟨⟨n + 1, hlt, by rw [show ((n + 1 : Nat) : Int) = (n : Int) + 1 by omega], ⟨A', c', rfl, hre, ?_⟩, hbz.trans hb'⟩, ?_⟩
          · have h1 := HQ2.out
            have h2 := HR2.out
            by_cases h : (n + 1) % 64 = 0
            · exact .inl h
            · refine .inr ⟨_, _, rfl, ?_, ?_⟩
              · rw [show (n + 1) / 64 = q by omega]
                exact (h5.grown (hgr.1 0 0) HOFF.out).mono (Nat.le_trans hS.size (hgr.1 0 0).size)
              · refine hgr.off HOFF.out fun ad2 e2 => ?_
                cases e2
                exact Nat.lt_of_lt_of_le HB5.out hS.size
          · simp only [intOf]
            omega
      · obtain rfl : n = L := by omega
        have g1 : ¬ (n : Int) < (n : Int) := by omega
        have HB := Lib.hid hb
        have HOS := Lib.hid (own_genX os)
        clear hx hb os
        go_wp2_with fail
        go_returns
        exact ⟨A, c, rfl, HOS.out, HB.out⟩
end
end Go.Proofs.YtmhfkabpfkoocaaDoor
