/-
  Layer 13's law WireReads over contracts. Written by tools/gen_wc7.py. By an AI agent.
-/
import Derived.Test.YtonfdnihllhcbaaWc6
namespace Go.Proofs.Ytonfdnihllhcbaa
open Go Go.RowKit
set_option maxRecDepth 20000
/-- A list of questions in memory. -/
structure RdK (w : World) (B : Nat) (A : Option Addr) (n : Nat) (f : Nat → Int × Int × Int) : Prop where
  some_ : 0 < n → ∃ b o, A = some ⟨b, o, none⟩ ∧ b < B ∧ ∀ k, k < n → w.cell? ⟨b, o + k * 3, none⟩ = some (.int .i64 (f k).1) ∧ w.cell? ⟨b, o + k * 3 + 1, none⟩ = some (.int .i64 (f k).2.1) ∧ w.cell? ⟨b, o + k * 3 + 2, none⟩ = some (.int .i64 (f k).2.2)
theorem RdK.keep {w w' : World} {B n : Nat} {A : Option Addr} {f : Nat → Int × Int × Int} (h : RdK w B A n f) (hb : Below B w w') : RdK w' B A n f :=
  ⟨fun hn => by
    obtain ⟨b, o, e, hlt, hc⟩ := h.some_ hn
    refine ⟨b, o, e, hlt, fun k hk => ?_⟩
    obtain ⟨c0, c1, c2⟩ := hc k hk
    exact ⟨(hb.cell (p := ⟨b, o + k * 3, none⟩) hlt).trans c0, (hb.cell (p := ⟨b, o + k * 3 + 1, none⟩) hlt).trans c1, (hb.cell (p := ⟨b, o + k * 3 + 2, none⟩) hlt).trans c2⟩⟩
section
variable {R : RdrP} (K : WireC R)
include K
theorem R_only2 {w w' : World} {B C g : Nat} {p : Value} {bs : List UInt8} {e : Int} (h : R w B C p bs e) (ho : Only g w w') (hg : g < B) : R w' B C p bs e :=
  K.keep h (fun k h1 _ => ho.block k (by omega)) (Nat.le_of_eq ho.size.symm)
theorem wirereads_much {A0 A1 : Option Addr} {c0 c1 m n : Nat} (hn : 100 < n) (w : World) :
    Calls Try.prog 4 #[.slice A0 m c0, .slice A1 n c1] w fun e w' => e = .returned (.bool true) ∧ Below w.heap.size w w' := by
  have g1 : (100 : Int) < (n : Int) := by omega
  clear hn
  go_enter Try.func4, Try.ntmps4
  go_wp2_with fail
  go_at_call 16
  refine (awake13 K w).mono ?_
  rintro z v9 ⟨rfl, h0⟩
  go_wp2_with fail
  go_ret
  exact ⟨rfl, h0⟩
set_option maxHeartbeats 12800000 in
theorem wirereads_law {A0 A1 : Option Addr} {c0 c1 n : Nat} {b : List UInt8} {f : Nat → Int × Int × Int} (hl : b.length ≤ 140737488351232) (hn : n ≤ 100) (w : World) (r0 : Rd w w.heap.size A0 c0 b) (r1 : RdK w w.heap.size A1 n f) :
    Calls Try.prog 4 #[.slice A0 b.length c0, .slice A1 n c1] w fun e w' => e = .returned (.bool true) ∧ Below w.heap.size w w' := by
  obtain ⟨nb, enb⟩ : ∃ k, k = b.length := ⟨_, rfl⟩
  rw [← enb] at hl ⊢
  have HNB := Lib.hid enb.symm
  have HL := Lib.hid (And.intro hl hn)
  have g1 : ¬ (100 : Int) < (n : Int) := by omega
  have hc := Below.refl w.heap.size w
  clear enb hl hn
  go_enter Try.func4, Try.ntmps4
  go_wp2_with fail
  go_at_call 9
  refine (own13_len HNB.out w r0 (Nat.le_refl _) (by have := HL.out.1; omega)).mono ?_
  rintro z v1 ⟨Ax, cx, rfl, ox, h0⟩
  replace r0 := r0.keep h0
  replace r1 := r1.keep h0
  replace hc := h0
  clear h0
  go_wp2_with fail
  go_at_call 17
  refine (wc_read K HNB.out v1 ox.rd (by have := HL.out.1; omega)).mono ?_
  rintro z v2 ⟨p, rfl, q2, h0⟩
  have rx := ox.rd
  replace ox := ox.keep h0
  replace r0 := r0.keep (h0.mono hc.size)
  replace r1 := r1.keep (h0.mono hc.size)
  have hs1 := hc.size
  replace hc := hc.trans (h0.mono hc.size)
  obtain ⟨B, eB⟩ : ∃ B, B = v1.heap.size := ⟨_, rfl⟩
  obtain ⟨C, eC⟩ : ∃ C, C = v2.heap.size := ⟨_, rfl⟩
  have hs2 := h0.size
  rw [← eB] at q2 hs1 rx hs2
  rw [← eC] at q2 hs2
  clear h0
  go_wp2_with fail
  go_at_call 18
  refine (rread_any A0 nb c0 v2).mono ?_
  rintro z v3 ⟨rfl, h0⟩
  have hsC : C ≤ v3.heap.size := by rw [eC]; exact h0.size
  replace q2 := K.next q2 h0
  replace ox := ox.keep h0
  replace r0 := r0.keep (h0.mono hc.size)
  replace r1 := r1.keep (h0.mono hc.size)
  replace hc := hc.trans (h0.mono hc.size)
  clear h0 eB eC
  have h3 : Below v3.heap.size v3 (v3.alloc (.cells (atC A0 nb c0 0) 34)) := (Below.refl _ _).alloc (Nat.le_refl _) _
  have oa := OAt.newz (w := v3) (B := w.heap.size) hc.size A0 nb c0 0
  obtain ⟨v4, e4⟩ : ∃ v, v = v3.alloc (.cells (atC A0 nb c0 0) 34) := ⟨_, rfl⟩
  obtain ⟨ga, ega⟩ : ∃ g, g = v3.heap.size := ⟨_, rfl⟩
  rw [← e4] at h3 oa
  rw [← ega] at oa hsC
  replace q2 := K.next q2 h3
  replace ox := ox.keep h3
  replace r0 := r0.keep (h3.mono hc.size)
  replace r1 := r1.keep (h3.mono hc.size)
  replace hc := hc.trans (h3.mono hc.size)
  have HG := Lib.hid (And.intro hs1 (And.intro hs2 hsC))
  have HX := Lib.hid rx
  have HI := Lib.hid (show ∃ bs : List UInt8, bs.length = nb ∧ Own v4 w.heap.size 5 Ax cx bs from ⟨b, HNB.out, ox⟩)
  have HR := Lib.hid (And.intro r0 r1)
  have E4 := Lib.hid (And.intro e4 ega)
  have HS := Lib.hid (And.intro q2 (And.intro oa hc))
  clear h3 hs1 hs2 hsC rx ox r0 r1 e4 ega q2 oa hc
  go_upto_region 5 with fail
  rw [← E4.out.1, ← E4.out.2]
  clear E4
  go_wp2_with fail
  go_loopw [25] (fun i wr => ∃ k : Nat, k ≤ nb ∧ i = .int .i64 (k : Int) ∧ (∃ bs : List UInt8, bs.length = nb ∧ Own wr w.heap.size 5 Ax cx bs) ∧ R wr B C p b 0 ∧ OAt wr w.heap.size ga A0 nb c0 0 ∧ Below w.heap.size v4 wr)
    (fun i _ => nb - (intOf i).toNat)
  case atStart => exact ⟨0, Nat.zero_le _, rfl, HI.out, HS.out.1, HS.out.2.1, (Below.refl _ _).mono HS.out.2.2.size⟩
  case round =>
    obtain ⟨k, hk, rfl, ⟨bs, hbs, ox⟩, q, oa, hc⟩ := hrel
    clear HI
    by_cases hlt : k < nb
    · have g2 : (k : Int) < (nb : Int) := by omega
      obtain ⟨gx, ox0, eAx, hxB, _⟩ := HX.out.at_ (k := k) (by rw [HNB.out]; exact hlt)
      obtain ⟨gy, eAy⟩ : ∃ g, Ax = some ⟨g, 0, none⟩ := by
        obtain ⟨_, h2⟩ := ox
        rcases h2 with ⟨hv, h0⟩ | ⟨g, cap, cur, hv, _⟩
        · simp only [Value.slice.injEq] at hv
          rw [hv.1] at eAx
          cases eAx
        · simp only [Value.slice.injEq] at hv
          exact ⟨g, hv.1⟩
      have hgx : gy < B := by
        rw [eAy] at eAx
        simp only [Option.some.injEq, Addr.mk.injEq] at eAx
        omega
      subst eAy
      clear eAx hxB HX
      have cl := ox.cell (k := k) (by rw [hbs]; exact hlt)
      have fr := ox.free k
      obtain ⟨y, ey⟩ : ∃ y, y = UInt8.ofNat (nth bs k + 1) := ⟨_, rfl⟩
      have ho1 := Only.setCell wr ⟨gy, k, none⟩ (.int .u8 (y.toNat : Int))
      have w1 : IntKind.u8.wrap ((nth bs k : Int) + 1) = ((y.toNat : Nat) : Int) := by
        rw [ey, IntKind.wrap_u8, UInt8.toNat_ofNat']
        omega
      have os := ox.set_ k y
      have hgg := HG.out
      have hF := Lib.hid (And.intro os (And.intro (R_only2 K q ho1 hgx) (And.intro (OwnF.only oa ho1 (by show gy ≠ ga; omega)) (hc.trans (ho1.below ox.ge)))))
      have HBS := Lib.hid hbs
      generalize nth bs k = x0 at cl w1
      have hnb := HL.out.1
      clear os q ho1 oa hc ox hgx ey hgg hbs
      go_wp2_with fail
      go_roundw
      case rel => exact ⟨k + 1, by omega, by go_num, ⟨_, by rw [List.length_set]; exact HBS.out, hF.out.1⟩, hF.out.2.1, hF.out.2.2.1, hF.out.2.2.2⟩
      case measure => simp [intOf]; omega
    · obtain rfl : k = nb := by omega
      obtain ⟨wo, ewo⟩ : ∃ v, v = wr := ⟨_, rfl⟩
      subst ewo
      have HI := Lib.hid (show ∃ A c bs e, OAt wo w.heap.size ga A (bs : List UInt8).length c e ∧ Rd wo w.heap.size A c bs ∧ R wo B C p bs e from ⟨A0, c0, b, 0, by rw [HNB.out]; exact oa, HR.out.1.keep hc, q⟩)
      have HC := Lib.hid (And.intro hc (HR.out.2.keep hc))
      have HW := Lib.hid HS.out.2.2
      clear ox oa q hc HR HS hlt hk hbs
      go_wp2_with fail
      go_loopw [37] (fun i wr => ∃ j : Nat, j ≤ n ∧ i = .int .i64 (j : Int) ∧ (∃ A c bs e, OAt wr w.heap.size ga A (bs : List UInt8).length c e ∧ Rd wr w.heap.size A c bs ∧ R wr B C p bs e) ∧ Below w.heap.size wo wr)
        (fun i _ => n - (intOf i).toNat)
      case atStart => exact ⟨0, Nat.zero_le _, rfl, HI.out, (Below.refl _ _).mono (Nat.le_trans HW.out.size HC.out.1.size)⟩
      case round =>
        obtain ⟨j, hj, rfl, ⟨A, c, bs, e, oa, rb, q⟩, hc⟩ := hrel
        clear HI
        by_cases hjn : j < n
        · have g3 : (j : Int) < (n : Int) := by omega
          have hkk := HC.out.2.keep hc
          obtain ⟨bk, ok, rfl, hbk, hcell⟩ := hkk.some_ (by omega)
          obtain ⟨m0, m1, m2⟩ := hcell j hjn
          obtain ⟨F3, eF3⟩ : ∃ F, F = f j := ⟨_, rfl⟩
          rw [← eF3] at m0 m1 m2
          obtain ⟨kd, aa, bb⟩ := F3
          simp only at m0 m1 m2
          obtain ⟨l, el⟩ : ∃ l, l = bs.length := ⟨_, rfl⟩
          have hws : w.heap.size ≤ wr.heap.size := Nat.le_trans (Nat.le_trans HW.out.size HC.out.1.size) hc.size
          have h5 : Below wr.heap.size wr (wr.alloc (.cells (kC kd aa bb) 37)) := (Below.refl _ _).alloc (Nat.le_refl _) _
          have o5 := OAsk.newz (w := wr) (B := w.heap.size) hws kd aa bb
          obtain ⟨v5, e5⟩ : ∃ v, v = wr.alloc (.cells (kC kd aa bb) 37) := ⟨_, rfl⟩
          obtain ⟨g5, eg5⟩ : ∃ g, g = wr.heap.size := ⟨_, rfl⟩
          rw [← e5] at h5 o5
          rw [← eg5] at o5
          have hga : ga < g5 := by rw [eg5]; exact oa.lt
          replace oa := oa.keep h5
          replace rb := rb.keep (h5.mono hws)
          replace q := K.next q h5
          replace hc := hc.trans (h5.mono hws)
          rw [← el] at oa
          have HEL := Lib.hid el.symm
          have HZ := Lib.hid (And.intro oa (And.intro rb (And.intro q (And.intro hc (And.intro hga o5)))))
          have E5 := Lib.hid (And.intro e5 eg5)
          have HJ := Lib.hid (And.intro hj hjn)
          have hn100 := HL.out.2
          clear hkk hcell eF3 el h5 o5 e5 eg5 hga oa rb q hc hws hj hjn hbk
          go_upto_region 13 with fail
          rw [← E5.out.1, ← E5.out.2]
          clear E5 m0 m1 m2
          obtain ⟨oa, rb, q, hc, hga, o5⟩ := HZ.out
          have k0 := o5.c0
          have k1 := o5.c1
          have k2 := o5.c2
          have m0 := oa.c0
          have m1 := oa.c1
          go_wp2_with fail
          go_at_call 19
          have hgg := HG.out
          refine (asked_any K HEL.out v5 q rb hgg.1).mono ?_
          rintro z v6 ⟨A2, c2, rfl, r2, q2, h0⟩
          clear k0 k1 k2 m0 m1
          obtain ⟨ND, eND⟩ : ∃ N, N = askR bs e kd aa bb := ⟨_, rfl⟩
          rw [← eND] at r2 q2 ⊢
          obtain ⟨rs, e2⟩ := ND
          simp only at r2 q2 ⊢
          have hB5 : B ≤ v5.heap.size := Nat.le_trans (K.le q).1 (K.le q).2
          have hlow := h0.low hB5 hgg.1
          replace oa : OAt v6 w.heap.size ga A l c e := OwnF.outb oa h0 (by omega)
          replace hc := hc.trans hlow
          obtain ⟨l2, el2⟩ : ∃ l, l = rs.length := ⟨_, rfl⟩
          rw [← el2]
          have hws6 : w.heap.size ≤ v6.heap.size := Nat.le_trans (Nat.le_trans HW.out.size HC.out.1.size) hc.size
          have h7 : Below v6.heap.size v6 (v6.alloc (.cells (atC A2 l2 c2 e2) 34)) := (Below.refl _ _).alloc (Nat.le_refl _) _
          have o7 := OAt.newz (w := v6) (B := w.heap.size) hws6 A2 l2 c2 e2
          obtain ⟨v7, e7⟩ : ∃ v, v = v6.alloc (.cells (atC A2 l2 c2 e2) 34) := ⟨_, rfl⟩
          obtain ⟨g7, eg7⟩ : ∃ g, g = v6.heap.size := ⟨_, rfl⟩
          rw [← e7] at h7 o7
          rw [← eg7] at o7
          replace oa := oa.keep h7
          replace r2 := r2.keep (h7.mono hws6)
          replace q2 := K.next q2 h7
          replace hc := hc.trans (h7.mono hws6)
          have HZ7 := Lib.hid (And.intro oa (And.intro r2 (And.intro q2 (And.intro hc (And.intro o7 (show C ≤ ga ∧ w.heap.size ≤ ga by omega))))))
          have E7 := Lib.hid (And.intro e7 eg7)
          have HL2 := Lib.hid el2.symm
          clear hB5 hlow h0 el2 hws6 h7 o7 e7 eg7 oa r2 q2 hc rb q hga o5 eND HZ hgg
          go_upto_region 14 with fail
          rw [← E7.out.1, ← E7.out.2]
          clear E7
          obtain ⟨oa, r2, q2, hc, o7, hgs⟩ := HZ7.out
          have k0 := o7.c0
          have k1 := o7.c1
          have m0 := oa.c0
          have m1 := oa.c1
          have f0 := oa.f0
          have f1 := oa.f1
          have ho := setAt_only v7 ga A2 l2 c2 e2
          have oa8 := oa.set_ A2 l2 c2 e2
          have r8 := r2.keep (ho.below (B := w.heap.size) hgs.2)
          have q8 := R_only K q2 ho hgs.1
          have hc8 := hc.trans (ho.below (B := w.heap.size) hgs.2)
          obtain ⟨v8, e8⟩ : ∃ v, v = setAt v7 ga A2 l2 c2 e2 := ⟨_, rfl⟩
          rw [← e8] at oa8 r8 q8 hc8
          have HA := Lib.hid (fun wz (hz : Below v8.heap.size v8 wz) => And.intro (oa8.keep hz).c0 (oa8.keep hz).c1)
          have HQ := Lib.hid q8
          have HZ8 := Lib.hid (And.intro oa8 (And.intro r8 hc8))
          have E8 := Lib.hid e8
          obtain ⟨y, ey⟩ : ∃ y, y = endR rs e2 := ⟨_, rfl⟩
          have HEND := Lib.hid (fun wz (h : R wz B C p rs e2) => wc_end K wz h)
          have HREND := Lib.hid (fun wz => rend_any A2 c2 rs e2 wz)
          rw [← ey] at HEND HREND
          rw [HL2.out] at HREND
          clear ho oa8 r8 q8 hc8 e8 oa r2 q2 hc o7 hgs ey HZ7
          go_upto_region 15 with fail
          rw [show (v7.setCell ⟨ga, 0, none⟩ (.slice A2 l2 c2)).setCell ⟨ga, 1, none⟩ (.int .i64 e2) = v8 by rw [E8.out]; rfl]
          clear E8 k0 k1 m0 m1 f0 f1
          refine wp_region_inv 23 [49, 50, 51, 52, 53, 54, 55, 56, 57, 58, 59, 60, 61, 62, 63, 64, 65, 66, 67, 68, 69, 70, 71] [.val (.bool true), .val (.bool false), .val (.bool false), .val (p), .val (.int .i64 e2), .val (.pointer (some ⟨ga, 1, none⟩)), .val (.int .i64 e2), .val (.bool false), .val (.bool false), .val (.bool false), .val (p), .val (.int .i64 (l2 : Int)), .val (.pointer (some ⟨ga, 0, none⟩)), .val (.slice A2 l2 c2), .val (.int .i64 (l2 : Int)), .val (.bool false), .val (.bool false), .val (.bool false), .val (p), .val (.int .i64 y), .val (atV A2 l2 c2 e2), .val (.int .i64 y), .val (.bool false)] (fun wz => Below v8.heap.size v8 wz) (by kernel_rfl) (by kernel_rfl) (fun wz wz' hz hb => hz.trans (hb.mono hz.size)) ((Below.refl _ _).drew) (fun u => by simp only [puts, List.foldl_cons, List.foldl_nil]; go_simp; exact rfl) ?_ ?_
          · simp only [List.take_succ_cons, List.take_zero]
            refine Obs.cons (fun u w hS hd => ?_) ?_
            · exact Gv.run (.bool true) rfl (by go_simp) rfl
            refine Obs.cons (fun u w hS hd => ?_) ?_
            · have d49 : u 49 = .bool true := dep hd 0 rfl
              rw [d49]
              exact Gv.run (.bool false) rfl (by go_simp) rfl
            refine Obs.cons (fun u w hS hd => ?_) ?_
            · have d50 : u 50 = .bool false := dep hd 1 rfl
              rw [d50]
              exact Gv.run (.bool false) rfl (by go_simp) rfl
            refine Obs.cons (fun u w hS hd => ?_) ?_
            · have d51 : u 51 = .bool false := dep hd 2 rfl
              rw [d51]
              exact Gv.run (p) rfl (by go_simp) rfl
            refine Obs.cons (fun u w hS hd => ?_) ?_
            · have d51 : u 51 = .bool false := dep hd 2 rfl
              rw [d51]
              have d52 : u 52 = p := dep hd 3 rfl
              rw [d52]
              refine Gv.call 20 #[p] rfl (by go_simp) ((wc_err K w (K.next HQ.out hS)).mono ?_)
              rintro e w' ⟨rfl, hb⟩
              exact ⟨_, rfl, rfl, hb⟩
            refine Obs.cons (fun u w hS hd => ?_) ?_
            · have d51 : u 51 = .bool false := dep hd 2 rfl
              rw [d51]
              exact Gv.run (.pointer (some ⟨ga, 1, none⟩)) (by rfl) (by go_simp) rfl
            refine Obs.cons (fun u w hS hd => ?_) ?_
            · have d51 : u 51 = .bool false := dep hd 2 rfl
              rw [d51]
              have d54 : u 54 = .pointer (some ⟨ga, 1, none⟩) := dep hd 5 rfl
              rw [d54]
              obtain ⟨m0, m1⟩ := HA.out w hS
              exact Gv.run (.int .i64 e2) (by rfl) (by go_simp) rfl
            refine Obs.cons (fun u w hS hd => ?_) ?_
            · have d51 : u 51 = .bool false := dep hd 2 rfl
              rw [d51]
              have d53 : u 53 = .int .i64 e2 := dep hd 4 rfl
              rw [d53]
              have d55 : u 55 = .int .i64 e2 := dep hd 6 rfl
              rw [d55]
              exact Gv.run (.bool false) rfl (by go_simp) rfl
            refine Obs.cons (fun u w hS hd => ?_) ?_
            · have d51 : u 51 = .bool false := dep hd 2 rfl
              rw [d51]
              have d56 : u 56 = .bool false := dep hd 7 rfl
              rw [d56]
              exact Gv.run (.bool false) rfl (by go_simp) rfl
            refine Obs.cons (fun u w hS hd => ?_) ?_
            · have d57 : u 57 = .bool false := dep hd 8 rfl
              rw [d57]
              exact Gv.run (.bool false) rfl (by go_simp) rfl
            refine Obs.cons (fun u w hS hd => ?_) ?_
            · have d58 : u 58 = .bool false := dep hd 9 rfl
              rw [d58]
              exact Gv.run (p) rfl (by go_simp) rfl
            refine Obs.cons (fun u w hS hd => ?_) ?_
            · have d58 : u 58 = .bool false := dep hd 9 rfl
              rw [d58]
              have d59 : u 59 = p := dep hd 10 rfl
              rw [d59]
              refine Gv.call 21 #[p] rfl (by go_simp) ((wc_left K HL2.out w (K.next HQ.out hS)).mono ?_)
              rintro e w' ⟨rfl, hb⟩
              exact ⟨_, rfl, rfl, hb⟩
            refine Obs.cons (fun u w hS hd => ?_) ?_
            · have d58 : u 58 = .bool false := dep hd 9 rfl
              rw [d58]
              exact Gv.run (.pointer (some ⟨ga, 0, none⟩)) (by rfl) (by go_simp) rfl
            refine Obs.cons (fun u w hS hd => ?_) ?_
            · have d58 : u 58 = .bool false := dep hd 9 rfl
              rw [d58]
              have d61 : u 61 = .pointer (some ⟨ga, 0, none⟩) := dep hd 12 rfl
              rw [d61]
              obtain ⟨m0, m1⟩ := HA.out w hS
              exact Gv.run (.slice A2 l2 c2) (by rfl) (by go_simp) rfl
            refine Obs.cons (fun u w hS hd => ?_) ?_
            · have d58 : u 58 = .bool false := dep hd 9 rfl
              rw [d58]
              have d62 : u 62 = .slice A2 l2 c2 := dep hd 13 rfl
              rw [d62]
              exact Gv.run (.int .i64 (l2 : Int)) (by rfl) (by go_simp) rfl
            refine Obs.cons (fun u w hS hd => ?_) ?_
            · have d58 : u 58 = .bool false := dep hd 9 rfl
              rw [d58]
              have d60 : u 60 = .int .i64 (l2 : Int) := dep hd 11 rfl
              rw [d60]
              have d63 : u 63 = .int .i64 (l2 : Int) := dep hd 14 rfl
              rw [d63]
              exact Gv.run (.bool false) rfl (by go_simp) rfl
            refine Obs.cons (fun u w hS hd => ?_) ?_
            · have d58 : u 58 = .bool false := dep hd 9 rfl
              rw [d58]
              have d64 : u 64 = .bool false := dep hd 15 rfl
              rw [d64]
              exact Gv.run (.bool false) rfl (by go_simp) rfl
            refine Obs.cons (fun u w hS hd => ?_) ?_
            · have d65 : u 65 = .bool false := dep hd 16 rfl
              rw [d65]
              exact Gv.run (.bool false) rfl (by go_simp) rfl
            refine Obs.cons (fun u w hS hd => ?_) ?_
            · have d66 : u 66 = .bool false := dep hd 17 rfl
              rw [d66]
              exact Gv.run (p) rfl (by go_simp) rfl
            refine Obs.cons (fun u w hS hd => ?_) ?_
            · have d66 : u 66 = .bool false := dep hd 17 rfl
              rw [d66]
              have d67 : u 67 = p := dep hd 18 rfl
              rw [d67]
              refine Gv.call 22 #[p] rfl (by go_simp) ((HEND.out w (K.next HQ.out hS)).mono ?_)
              rintro e w' ⟨rfl, hb⟩
              exact ⟨_, rfl, rfl, hb⟩
            refine Obs.cons (fun u w hS hd => ?_) ?_
            · have d66 : u 66 = .bool false := dep hd 17 rfl
              rw [d66]
              obtain ⟨m0, m1⟩ := HA.out w hS
              exact Gv.run (atV A2 l2 c2 e2) (by rfl) (by go_simp) rfl
            refine Obs.cons (fun u w hS hd => ?_) ?_
            · have d66 : u 66 = .bool false := dep hd 17 rfl
              rw [d66]
              have d69 : u 69 = atV A2 l2 c2 e2 := dep hd 20 rfl
              rw [d69]
              refine Gv.call 23 #[atV A2 l2 c2 e2] rfl (by go_simp) ((HREND.out w).mono ?_)
              rintro e w' ⟨rfl, hb⟩
              exact ⟨_, rfl, rfl, hb⟩
            refine Obs.cons (fun u w hS hd => ?_) ?_
            · have d66 : u 66 = .bool false := dep hd 17 rfl
              rw [d66]
              have d68 : u 68 = .int .i64 y := dep hd 19 rfl
              rw [d68]
              have d70 : u 70 = .int .i64 y := dep hd 21 rfl
              rw [d70]
              exact Gv.run (.bool false) rfl (by go_simp) rfl
            exact Obs.nil
          intro u v9 hS hd
          have d71 : u 71 = .bool false := hd 22 (by decide)
          have d66 : u 66 = .bool false := hd 17 (by decide)
          rw [d71, d66]
          have hz8 := HZ8.out
          have HE := Lib.hid (And.intro (hz8.1.keep hS) (And.intro (hz8.2.1.keep (hS.mono (Nat.le_trans (Nat.le_trans HW.out.size HC.out.1.size) hz8.2.2.size))) (And.intro (K.next HQ.out hS) (hz8.2.2.trans (hS.mono (Nat.le_trans (Nat.le_trans HW.out.size HC.out.1.size) hz8.2.2.size))))))
          clear hd d71 d66 hS hz8 HZ8 HQ HA HEND HREND
          simp only [List.drop_succ_cons, List.drop_zero]
          go_wp2_with fail
          go_roundw
          case rel => exact ⟨j + 1, by have := HJ.out; omega, by go_num, ⟨A2, c2, rs, e2, by rw [HL2.out]; exact HE.out.1, HE.out.2.1, HE.out.2.2.1⟩, HE.out.2.2.2⟩
          case measure => have := HJ.out; simp [intOf]; omega
        · obtain rfl : j = n := by omega
          have HF := Lib.hid ((HW.out.trans HC.out.1).trans hc)
          clear oa rb q hc HC HW
          go_wp2_with fail
          go_at_call 16
          refine (awake13 K wr).mono ?_
          rintro z v9 ⟨rfl, h0⟩
          have HFF := Lib.hid (HF.out.trans (h0.mono HF.out.size))
          clear h0 HF
          go_wp2_with fail
          go_ret
          exact ⟨rfl, HFF.out⟩
end
end Go.Proofs.Ytonfdnihllhcbaa
