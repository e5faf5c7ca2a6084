/-
  Layer 10's laws: StreamBegins. Written by tools/gen_y16.py. By an AI agent.
-/
import Derived.Test.YthbogplajbldaaaY19
import Derived.Test.YthbogplajbldaaaY17
import Derived.Test.YthbogplajbldaaaSb
import Derived.Test.YthbogplajbldaaaSh
namespace Go.Proofs.Ythbogplajbldaaa
open Go Go.RowKit
set_option maxRecDepth 20000
theorem begins_much {A0 A1 A2 : Option Addr} {n0 n1 n2 c0 c1 c2 ctr at_ : Nat} (hn : 4000 < n2) (w : World) : Calls Try.prog 7 #[.agg (sealV A0 n0 c0 A1 n1 c1 ctr A2 n2 c2), .int .u16 (at_ : Int)] w fun e w' => e = .returned (.bool true) ∧ Below w.heap.size w w' := by
  have hc := (Below.refl w.heap.size w).alloc (Nat.le_refl _) (.cells (sealV A0 n0 c0 A1 n1 c1 ctr A2 n2 c2) 37)
  have HC := Lib.hid hc
  have g1 : (4000 : Int) < (n2 : Int) := by omega
  clear hc
  go_enter Try.func7, Try.ntmps7
  go_wp2_with fail
  go_at_call 10
  refine (awake10 _).mono ?_
  rintro e v1 ⟨rfl, hc⟩
  have hfin := HC.out.trans (hc.mono HC.out.size)
  go_wp2_with fail
  go_ret
  exact ⟨rfl, hfin⟩
theorem slice10_hi {o : Oper} {a : Act} {w : World} {x hi : Operand} {A : Option Addr} {n c h : Nat} (ho : o.op = .slice 29 x none (some hi) none) (e1 : a.eval x = .slice A n c) (e2 : a.eval hi = .int .i64 (h : Int)) (h1 : h ≤ c) :
    (execOp a.eval o).run Try.prog w = .ok (.value (.slice (subA A c 0) h c)) w := by
  unfold execOp
  simp only [ho, e1, e2, Option.map_some, Option.map_none, Instr.sliceAt, Sem.run_bind, run_underlying Try.underlying29 w, slice_run_hi w h1, Result.andThen_ok, Sem.run_pure]
theorem own10_n {n : Nat} {bs : List UInt8} (hn : bs.length = n) (hl : n ≤ 140737488355328) (A : Option Addr) (c : Nat) (w : World) (hr : Rd w w.heap.size A c bs) :
    Calls Try.prog 11 #[.slice A n c] w fun e w' => ∃ A' c', e = .returned (.slice A' n c') ∧ Rd w' w'.heap.size A' c' bs ∧ Below w.heap.size w w' := by
  subst hn
  exact own10_rd bs A c w hl hr
def tupN (S : List UInt8) (n er : Nat) (v : Value) (w : World) : Prop := ∃ A c, v = .tuple #[.slice A n c, .int .i64 (er : Int)] ∧ Rd w w.heap.size A c S
theorem tupN_keep {S : List UInt8} {n er : Nat} (v : Value) (w w' : World) (h : tupN S n er v w) (hb : Below w.heap.size w w') : tupN S n er v w' := by
  obtain ⟨A, c, e, r⟩ := h
  exact ⟨A, c, e, (r.keep hb).mono hb.size⟩
set_option maxHeartbeats 6400000 in
theorem begins_no {A0 A1 A2 : Option Addr} {c0 c1 c2 ctr er at_ : Nat} {key nonce b L : List UInt8} (hl : key.length ≤ 140737488355328) (hm : nonce.length ≤ 140737488355328) (hb : b.length ≤ 4000) (hL : L.length = 0) (her : er ≠ 0)
    (kg : ∀ (A B C : Option Addr) (c d e0 : Nat) (w : World), Rd w w.heap.size A c key → Rd w w.heap.size B d nonce → Rd w w.heap.size C e0 b → Calls Try.prog 14 #[.slice A key.length c, .slice B nonce.length d, .int .u32 (ctr : Int), .slice C b.length e0] w fun e w' => ∃ A2 c2, e = .returned (.tuple #[.slice A2 L.length c2, .int .i64 (er : Int)]) ∧ Rd w' w'.heap.size A2 c2 L ∧ Below w.heap.size w w')
    (w : World) (r0 : Rd w w.heap.size A0 c0 key) (q0 : Rd w w.heap.size A1 c1 nonce) (p0 : Rd w w.heap.size A2 c2 b) : Calls Try.prog 7 #[.agg (sealV A0 key.length c0 A1 nonce.length c1 ctr A2 b.length c2), .int .u16 (at_ : Int)] w fun e w' => e = .returned (.bool true) ∧ Below w.heap.size w w' := by
  have KG := Lib.hid kg
  have g1 : ((er : Int) != 0) = true := by simp; omega
  have g2 : ((L.length : Int) == 0) = true := by rw [hL]; rfl
  clear kg hL her
  have HL := Lib.hid hl
  have HM := Lib.hid hm
  have HN := Lib.hid (show b.length ≤ 140737488355328 by omega)
  have gb : ¬ (4000 : Int) < (b.length : Int) := by omega
  clear hl hm hb
  have ob := OwnF.lit (w := w) (B := w.heap.size) 37 (Nat.le_refl _) (sealV A0 key.length c0 A1 nonce.length c1 ctr A2 b.length c2) 4 (sealF A0 key.length c0 A1 nonce.length c1 ctr A2 b.length c2) (by decide) (by rfl)
  have hc := (Below.refl w.heap.size w).alloc (Nat.le_refl _) (.cells (sealV A0 key.length c0 A1 nonce.length c1 ctr A2 b.length c2) 37)
  go_enter Try.func7, Try.ntmps7
  go_upto_region 1 with fail
  obtain ⟨v1, e1⟩ : ∃ v, v = w.alloc (.cells (sealV A0 key.length c0 A1 nonce.length c1 ctr A2 b.length c2) 37) := ⟨_, rfl⟩
  obtain ⟨gk, eg⟩ : ∃ g, g = w.heap.size := ⟨_, rfl⟩
  rw [← e1] at ob hc ⊢
  replace ob : OwnF v1 w.heap.size 37 (some ⟨gk, 0, none⟩) 4 4 (sealF A0 key.length c0 A1 nonce.length c1 ctr A2 b.length c2) := by rw [eg]; exact ob
  rw [show Value.pointer (some ⟨w.heap.size, 0, none⟩) = .pointer (some ⟨gk, 0, none⟩) by rw [eg]]
  clear e1 eg
  replace r0 := (r0.keep hc).mono hc.size
  replace q0 := (q0.keep hc).mono hc.size
  replace p0 := (p0.keep hc).mono hc.size
  have HB := Lib.hid (fun wz (hz : Below v1.heap.size v1 wz) => show wz.cell? ⟨gk, 0, none⟩ = some (.slice A0 key.length c0) ∧ wz.cell? ⟨gk, 1, none⟩ = some (.slice A1 nonce.length c1) ∧ wz.cell? ⟨gk, 2, none⟩ = some (.int .u32 (ctr : Int)) ∧ wz.cell? ⟨gk, 3, none⟩ = some (.slice A2 b.length c2) from
    ⟨OwnF.cell (OwnF.keep ob hz) (k := 0) (by decide), OwnF.cell (OwnF.keep ob hz) (k := 1) (by decide), OwnF.cell (OwnF.keep ob hz) (k := 2) (by decide), OwnF.cell (OwnF.keep ob hz) (k := 3) (by decide)⟩)
  have kk0 : v1.cell? ⟨gk, 0, none⟩ = some (.slice A0 key.length c0) := OwnF.cell ob (k := 0) (by decide)
  have kk1 : v1.cell? ⟨gk, 1, none⟩ = some (.slice A1 nonce.length c1) := OwnF.cell ob (k := 1) (by decide)
  have kk2 : v1.cell? ⟨gk, 2, none⟩ = some (.int .u32 (ctr : Int)) := OwnF.cell ob (k := 2) (by decide)
  have kk3 : v1.cell? ⟨gk, 3, none⟩ = some (.slice A2 b.length c2) := OwnF.cell ob (k := 3) (by decide)
  go_upto_region 3 with fail
  clear gb kk0 kk1 kk2 kk3
  refine wp_region_inv 16 [18, 19, 20, 21, 22, 23, 24, 25, 26, 27, 28, 29, 17, 30, 31, 5] [.val (.pointer (some ⟨gk, 0, none⟩)), .byt key, .byt key, .val (.pointer (some ⟨gk, 1, none⟩)), .byt nonce, .byt nonce, .val (.pointer (some ⟨gk, 2, none⟩)), .val (.int .u32 (ctr : Int)), .val (.pointer (some ⟨gk, 3, none⟩)), .byt b, .byt b, .sat (tupE L er) tupE_keep, .sat (tupE L er) tupE_keep, .byt L, .val (.int .i64 (er : Int)), .byt L] (fun wz => Below v1.heap.size v1 wz) (by kernel_rfl) (by kernel_rfl) (fun wz wz' hz hb => hz.trans (hb.mono hz.size)) ((Below.refl _ _).drew) (fun u => by simp only [puts, List.foldl_cons, List.foldl_nil]; go_simp; exact rfl) ?_ ?_
  · simp only [List.take_succ_cons, List.take_zero]
    refine Obs.cons (fun u w hS hd => ?_) ?_
    · exact Gv.run (.pointer (some ⟨gk, 0, none⟩)) rfl (by go_simp) rfl
    refine Obs.cons (fun u w hS hd => ?_) ?_
    · have d18 : u 18 = .pointer (some ⟨gk, 0, none⟩) := dep hd 0 rfl
      rw [d18]
      obtain ⟨k0, k1, k2, k3⟩ := HB.out w hS
      exact Gv.run (.slice A0 key.length c0) rfl (by go_simp) ⟨_, _, rfl, (r0.keep hS).mono hS.size⟩
    refine Obs.cons (fun u w hS hd => ?_) ?_
    · obtain ⟨A19, c19, d19, g19⟩ : (Know.byt key).ok (u 19) w := dep hd 1 rfl
      rw [d19]
      refine Gv.call 11 #[.slice A19 key.length c19] rfl (by go_simp) ((own10_rd key _ _ w HL.out g19).mono ?_)
      rintro e w' ⟨A, c, rfl, R, hb⟩
      exact ⟨_, rfl, ⟨A, c, rfl, R⟩, hb⟩
    refine Obs.cons (fun u w hS hd => ?_) ?_
    · exact Gv.run (.pointer (some ⟨gk, 1, none⟩)) rfl (by go_simp) rfl
    refine Obs.cons (fun u w hS hd => ?_) ?_
    · have d21 : u 21 = .pointer (some ⟨gk, 1, none⟩) := dep hd 3 rfl
      rw [d21]
      obtain ⟨k0, k1, k2, k3⟩ := HB.out w hS
      exact Gv.run (.slice A1 nonce.length c1) rfl (by go_simp) ⟨_, _, rfl, (q0.keep hS).mono hS.size⟩
    refine Obs.cons (fun u w hS hd => ?_) ?_
    · obtain ⟨A22, c22, d22, g22⟩ : (Know.byt nonce).ok (u 22) w := dep hd 4 rfl
      rw [d22]
      refine Gv.call 11 #[.slice A22 nonce.length c22] rfl (by go_simp) ((own10_rd nonce _ _ w HM.out g22).mono ?_)
      rintro e w' ⟨A, c, rfl, R, hb⟩
      exact ⟨_, rfl, ⟨A, c, rfl, R⟩, hb⟩
    refine Obs.cons (fun u w hS hd => ?_) ?_
    · exact Gv.run (.pointer (some ⟨gk, 2, none⟩)) rfl (by go_simp) rfl
    refine Obs.cons (fun u w hS hd => ?_) ?_
    · have d24 : u 24 = .pointer (some ⟨gk, 2, none⟩) := dep hd 6 rfl
      rw [d24]
      obtain ⟨k0, k1, k2, k3⟩ := HB.out w hS
      exact Gv.run (.int .u32 (ctr : Int)) rfl (by go_simp) rfl
    refine Obs.cons (fun u w hS hd => ?_) ?_
    · exact Gv.run (.pointer (some ⟨gk, 3, none⟩)) rfl (by go_simp) rfl
    refine Obs.cons (fun u w hS hd => ?_) ?_
    · have d26 : u 26 = .pointer (some ⟨gk, 3, none⟩) := dep hd 8 rfl
      rw [d26]
      obtain ⟨k0, k1, k2, k3⟩ := HB.out w hS
      exact Gv.run (.slice A2 b.length c2) rfl (by go_simp) ⟨_, _, rfl, (p0.keep hS).mono hS.size⟩
    refine Obs.cons (fun u w hS hd => ?_) ?_
    · obtain ⟨A27, c27, d27, g27⟩ : (Know.byt b).ok (u 27) w := dep hd 9 rfl
      rw [d27]
      refine Gv.call 11 #[.slice A27 b.length c27] rfl (by go_simp) ((own10_rd b _ _ w HN.out g27).mono ?_)
      rintro e w' ⟨A, c, rfl, R, hb⟩
      exact ⟨_, rfl, ⟨A, c, rfl, R⟩, hb⟩
    refine Obs.cons (fun u w hS hd => ?_) ?_
    · obtain ⟨A20, c20, d20, g20⟩ : (Know.byt key).ok (u 20) w := dep hd 2 rfl
      rw [d20]
      obtain ⟨A23, c23, d23, g23⟩ : (Know.byt nonce).ok (u 23) w := dep hd 5 rfl
      rw [d23]
      have d25 : u 25 = .int .u32 (ctr : Int) := dep hd 7 rfl
      rw [d25]
      obtain ⟨A28, c28, d28, g28⟩ : (Know.byt b).ok (u 28) w := dep hd 10 rfl
      rw [d28]
      refine Gv.call 14 #[.slice A20 key.length c20, .slice A23 nonce.length c23, .int .u32 (ctr : Int), .slice A28 b.length c28] rfl (by go_simp) ((KG.out _ _ _ _ _ _ w g20 g23 g28).mono ?_)
      rintro e w' ⟨A, c, rfl, R, hb⟩
      exact ⟨_, rfl, ⟨A, c, rfl, R⟩, hb⟩
    refine Obs.cons (fun u w hS hd => ?_) ?_
    · obtain ⟨A, c, d29, g29⟩ : (Know.sat (tupE L er) tupE_keep).ok (u 29) w := dep hd 11 rfl
      rw [d29]
      exact Gv.run (.tuple #[.slice A L.length c, .int .i64 (er : Int)]) rfl (by go_simp) ⟨_, _, rfl, g29⟩
    refine Obs.cons (fun u w hS hd => ?_) ?_
    · obtain ⟨A, c, d17, g17⟩ : (Know.sat (tupE L er) tupE_keep).ok (u 17) w := dep hd 12 rfl
      rw [d17]
      exact Gv.run (.slice A L.length c) rfl (by go_simp) ⟨_, _, rfl, g17⟩
    refine Obs.cons (fun u w hS hd => ?_) ?_
    · obtain ⟨A, c, d17, g17⟩ : (Know.sat (tupE L er) tupE_keep).ok (u 17) w := dep hd 12 rfl
      rw [d17]
      exact Gv.run (.int .i64 (er : Int)) rfl (by go_simp) rfl
    refine Obs.cons (fun u w hS hd => ?_) ?_
    · obtain ⟨A30, c30, d30, g30⟩ : (Know.byt L).ok (u 30) w := dep hd 13 rfl
      rw [d30]
      exact Gv.run (.slice A30 L.length c30) rfl (by go_simp) ⟨_, _, rfl, g30⟩
    exact Obs.nil
  intro u wz hS hd
  obtain ⟨A5, c5, d5, g5⟩ : (Know.byt L).ok (u 5) wz := hd 15 (by decide)
  rw [d5]
  have d31 : u 31 = .int .i64 (er : Int) := hd 14 (by decide)
  rw [d31]
  clear hd d5 d31
  simp only [List.drop_succ_cons, List.drop_zero]
  replace hc := hc.trans (hS.mono hc.size)
  clear HB KG
  go_wp2_with fail
  go_at_call 10
  refine (awake10 wz).mono ?_
  rintro e y5 ⟨rfl, h0⟩
  replace hc := hc.trans (h0.mono hc.size)
  go_wp2_with fail
  go_ret
  exact ⟨rfl, hc⟩
set_option maxHeartbeats 6400000 in
theorem begins_end {A0 A1 A2 : Option Addr} {c0 c1 c2 ctr at_ k k1 : Nat} {key nonce b L T0 F : List UInt8} (hl : key.length ≤ 140737488355328) (hm : nonce.length ≤ 140737488355328) (hb : b.length ≤ 4000) (hLb : L.length = b.length) (hat : at_ < 65536) (hk : k = at_ % (b.length + 1)) (hk1 : k1 = k - k % 64) (hT0 : b.take k = T0) (hF : L.take k = F) (hend : k1 = b.length)
    (kg : ∀ (A B C : Option Addr) (c d e0 : Nat) (w : World), Rd w w.heap.size A c key → Rd w w.heap.size B d nonce → Rd w w.heap.size C e0 b → Calls Try.prog 14 #[.slice A key.length c, .slice B nonce.length d, .int .u32 (ctr : Int), .slice C b.length e0] w fun e w' => ∃ A2 c2, e = .returned (.tuple #[.slice A2 L.length c2, .int .i64 0]) ∧ Rd w' w'.heap.size A2 c2 L ∧ Below w.heap.size w w')
    (kf : ∀ (A B C : Option Addr) (c d e0 : Nat) (w : World), Rd w w.heap.size A c key → Rd w w.heap.size B d nonce → Rd w w.heap.size C e0 T0 → Calls Try.prog 14 #[.slice A key.length c, .slice B nonce.length d, .int .u32 (ctr : Int), .slice C k e0] w fun e w' => ∃ A2 c2, e = .returned (.tuple #[.slice A2 k c2, .int .i64 0]) ∧ Rd w' w'.heap.size A2 c2 F ∧ Below w.heap.size w w')
    (w : World) (r0 : Rd w w.heap.size A0 c0 key) (q0 : Rd w w.heap.size A1 c1 nonce) (p0 : Rd w w.heap.size A2 c2 b) : Calls Try.prog 7 #[.agg (sealV A0 key.length c0 A1 nonce.length c1 ctr A2 b.length c2), .int .u16 (at_ : Int)] w fun e w' => e = .returned (.bool true) ∧ Below w.heap.size w w' := by
  have KG := Lib.hid kg
  have KF := Lib.hid kf
  have HEND := Lib.hid (show ((k1 : Int) == (b.length : Int)) = true by rw [hend]; simp)
  have hkb : k ≤ b.length := by have := Nat.mod_lt at_ (show 0 < b.length + 1 by omega); omega
  have HT0 := Lib.hid (show T0.length = k by rw [← hT0, List.length_take]; omega)
  have HF := Lib.hid (show F.length = k by rw [← hF, List.length_take]; omega)
  have HTE := Lib.hid hT0
  have HFE := Lib.hid hF
  have HKB := Lib.hid hkb
  have HKL := Lib.hid (show k ≤ L.length by omega)
  have HK4 := Lib.hid (show k ≤ 140737488355328 by omega)
  have HLB := Lib.hid (show ((L.length : Int) != (b.length : Int)) = false by rw [hLb]; simp)
  obtain ⟨m9, em9⟩ : ∃ m, m = b.length + 1 := ⟨_, rfl⟩
  have HZ := Lib.hid (And.intro (show IntKind.i64.wrap (at_ : Int) = (at_ : Int) by rw [IntKind.wrap_i64]; omega) (And.intro (show IntKind.i64.wrap ((b.length : Int) + 1) = (m9 : Int) by rw [IntKind.wrap_i64]; omega) (show ¬ (m9 : Int) = 0 by omega)))
  have HKK := Lib.hid (show (at_ : Int).tmod (m9 : Int) = (k : Int) by rw [Int.tmod_eq_emod_of_nonneg (by omega), hk, em9]; rfl)
  obtain ⟨r9, er9⟩ : ∃ r, r = k % 64 := ⟨_, rfl⟩
  have HR9 := Lib.hid (show (k : Int).tmod 64 = (r9 : Int) by rw [Int.tmod_eq_emod_of_nonneg (by omega)]; omega)
  have HR8 := Lib.hid (show IntKind.i64.wrap ((k : Int) - (r9 : Int)) = (k1 : Int) by rw [IntKind.wrap_i64]; omega)
  clear kg kf hend hLb hat hk hk1 hT0 hF hkb em9 er9
  have HL := Lib.hid hl
  have HM := Lib.hid hm
  have HN := Lib.hid (show b.length ≤ 140737488355328 by omega)
  have gb : ¬ (4000 : Int) < (b.length : Int) := by omega
  clear hl hm hb
  have ob := OwnF.lit (w := w) (B := w.heap.size) 37 (Nat.le_refl _) (sealV A0 key.length c0 A1 nonce.length c1 ctr A2 b.length c2) 4 (sealF A0 key.length c0 A1 nonce.length c1 ctr A2 b.length c2) (by decide) (by rfl)
  have hc := (Below.refl w.heap.size w).alloc (Nat.le_refl _) (.cells (sealV A0 key.length c0 A1 nonce.length c1 ctr A2 b.length c2) 37)
  go_enter Try.func7, Try.ntmps7
  go_upto_region 1 with fail
  obtain ⟨v1, e1⟩ : ∃ v, v = w.alloc (.cells (sealV A0 key.length c0 A1 nonce.length c1 ctr A2 b.length c2) 37) := ⟨_, rfl⟩
  obtain ⟨gk, eg⟩ : ∃ g, g = w.heap.size := ⟨_, rfl⟩
  rw [← e1] at ob hc ⊢
  replace ob : OwnF v1 w.heap.size 37 (some ⟨gk, 0, none⟩) 4 4 (sealF A0 key.length c0 A1 nonce.length c1 ctr A2 b.length c2) := by rw [eg]; exact ob
  rw [show Value.pointer (some ⟨w.heap.size, 0, none⟩) = .pointer (some ⟨gk, 0, none⟩) by rw [eg]]
  clear e1 eg
  replace r0 := (r0.keep hc).mono hc.size
  replace q0 := (q0.keep hc).mono hc.size
  replace p0 := (p0.keep hc).mono hc.size
  have HB := Lib.hid (fun wz (hz : Below v1.heap.size v1 wz) => show wz.cell? ⟨gk, 0, none⟩ = some (.slice A0 key.length c0) ∧ wz.cell? ⟨gk, 1, none⟩ = some (.slice A1 nonce.length c1) ∧ wz.cell? ⟨gk, 2, none⟩ = some (.int .u32 (ctr : Int)) ∧ wz.cell? ⟨gk, 3, none⟩ = some (.slice A2 b.length c2) from
    ⟨OwnF.cell (OwnF.keep ob hz) (k := 0) (by decide), OwnF.cell (OwnF.keep ob hz) (k := 1) (by decide), OwnF.cell (OwnF.keep ob hz) (k := 2) (by decide), OwnF.cell (OwnF.keep ob hz) (k := 3) (by decide)⟩)
  have kk0 : v1.cell? ⟨gk, 0, none⟩ = some (.slice A0 key.length c0) := OwnF.cell ob (k := 0) (by decide)
  have kk1 : v1.cell? ⟨gk, 1, none⟩ = some (.slice A1 nonce.length c1) := OwnF.cell ob (k := 1) (by decide)
  have kk2 : v1.cell? ⟨gk, 2, none⟩ = some (.int .u32 (ctr : Int)) := OwnF.cell ob (k := 2) (by decide)
  have kk3 : v1.cell? ⟨gk, 3, none⟩ = some (.slice A2 b.length c2) := OwnF.cell ob (k := 3) (by decide)
  go_upto_region 3 with fail
  clear gb kk0 kk1 kk2 kk3
  refine wp_region_inv 16 [18, 19, 20, 21, 22, 23, 24, 25, 26, 27, 28, 29, 17, 30, 31, 5] [.val (.pointer (some ⟨gk, 0, none⟩)), .byt key, .byt key, .val (.pointer (some ⟨gk, 1, none⟩)), .byt nonce, .byt nonce, .val (.pointer (some ⟨gk, 2, none⟩)), .val (.int .u32 (ctr : Int)), .val (.pointer (some ⟨gk, 3, none⟩)), .byt b, .byt b, .sat (tupE L 0) tupE_keep, .sat (tupE L 0) tupE_keep, .byt L, .val (.int .i64 0), .byt L] (fun wz => Below v1.heap.size v1 wz) (by kernel_rfl) (by kernel_rfl) (fun wz wz' hz hb => hz.trans (hb.mono hz.size)) ((Below.refl _ _).drew) (fun u => by simp only [puts, List.foldl_cons, List.foldl_nil]; go_simp; exact rfl) ?_ ?_
  · simp only [List.take_succ_cons, List.take_zero]
    refine Obs.cons (fun u w hS hd => ?_) ?_
    · exact Gv.run (.pointer (some ⟨gk, 0, none⟩)) rfl (by go_simp) rfl
    refine Obs.cons (fun u w hS hd => ?_) ?_
    · have d18 : u 18 = .pointer (some ⟨gk, 0, none⟩) := dep hd 0 rfl
      rw [d18]
      obtain ⟨k0, k1, k2, k3⟩ := HB.out w hS
      exact Gv.run (.slice A0 key.length c0) rfl (by go_simp) ⟨_, _, rfl, (r0.keep hS).mono hS.size⟩
    refine Obs.cons (fun u w hS hd => ?_) ?_
    · obtain ⟨A19, c19, d19, g19⟩ : (Know.byt key).ok (u 19) w := dep hd 1 rfl
      rw [d19]
      refine Gv.call 11 #[.slice A19 key.length c19] rfl (by go_simp) ((own10_rd key _ _ w HL.out g19).mono ?_)
      rintro e w' ⟨A, c, rfl, R, hb⟩
      exact ⟨_, rfl, ⟨A, c, rfl, R⟩, hb⟩
    refine Obs.cons (fun u w hS hd => ?_) ?_
    · exact Gv.run (.pointer (some ⟨gk, 1, none⟩)) rfl (by go_simp) rfl
    refine Obs.cons (fun u w hS hd => ?_) ?_
    · have d21 : u 21 = .pointer (some ⟨gk, 1, none⟩) := dep hd 3 rfl
      rw [d21]
      obtain ⟨k0, k1, k2, k3⟩ := HB.out w hS
      exact Gv.run (.slice A1 nonce.length c1) rfl (by go_simp) ⟨_, _, rfl, (q0.keep hS).mono hS.size⟩
    refine Obs.cons (fun u w hS hd => ?_) ?_
    · obtain ⟨A22, c22, d22, g22⟩ : (Know.byt nonce).ok (u 22) w := dep hd 4 rfl
      rw [d22]
      refine Gv.call 11 #[.slice A22 nonce.length c22] rfl (by go_simp) ((own10_rd nonce _ _ w HM.out g22).mono ?_)
      rintro e w' ⟨A, c, rfl, R, hb⟩
      exact ⟨_, rfl, ⟨A, c, rfl, R⟩, hb⟩
    refine Obs.cons (fun u w hS hd => ?_) ?_
    · exact Gv.run (.pointer (some ⟨gk, 2, none⟩)) rfl (by go_simp) rfl
    refine Obs.cons (fun u w hS hd => ?_) ?_
    · have d24 : u 24 = .pointer (some ⟨gk, 2, none⟩) := dep hd 6 rfl
      rw [d24]
      obtain ⟨k0, k1, k2, k3⟩ := HB.out w hS
      exact Gv.run (.int .u32 (ctr : Int)) rfl (by go_simp) rfl
    refine Obs.cons (fun u w hS hd => ?_) ?_
    · exact Gv.run (.pointer (some ⟨gk, 3, none⟩)) rfl (by go_simp) rfl
    refine Obs.cons (fun u w hS hd => ?_) ?_
    · have d26 : u 26 = .pointer (some ⟨gk, 3, none⟩) := dep hd 8 rfl
      rw [d26]
      obtain ⟨k0, k1, k2, k3⟩ := HB.out w hS
      exact Gv.run (.slice A2 b.length c2) rfl (by go_simp) ⟨_, _, rfl, (p0.keep hS).mono hS.size⟩
    refine Obs.cons (fun u w hS hd => ?_) ?_
    · obtain ⟨A27, c27, d27, g27⟩ : (Know.byt b).ok (u 27) w := dep hd 9 rfl
      rw [d27]
      refine Gv.call 11 #[.slice A27 b.length c27] rfl (by go_simp) ((own10_rd b _ _ w HN.out g27).mono ?_)
      rintro e w' ⟨A, c, rfl, R, hb⟩
      exact ⟨_, rfl, ⟨A, c, rfl, R⟩, hb⟩
    refine Obs.cons (fun u w hS hd => ?_) ?_
    · obtain ⟨A20, c20, d20, g20⟩ : (Know.byt key).ok (u 20) w := dep hd 2 rfl
      rw [d20]
      obtain ⟨A23, c23, d23, g23⟩ : (Know.byt nonce).ok (u 23) w := dep hd 5 rfl
      rw [d23]
      have d25 : u 25 = .int .u32 (ctr : Int) := dep hd 7 rfl
      rw [d25]
      obtain ⟨A28, c28, d28, g28⟩ : (Know.byt b).ok (u 28) w := dep hd 10 rfl
      rw [d28]
      refine Gv.call 14 #[.slice A20 key.length c20, .slice A23 nonce.length c23, .int .u32 (ctr : Int), .slice A28 b.length c28] rfl (by go_simp) ((KG.out _ _ _ _ _ _ w g20 g23 g28).mono ?_)
      rintro e w' ⟨A, c, rfl, R, hb⟩
      exact ⟨_, rfl, ⟨A, c, rfl, R⟩, hb⟩
    refine Obs.cons (fun u w hS hd => ?_) ?_
    · obtain ⟨A, c, d29, g29⟩ : (Know.sat (tupE L 0) tupE_keep).ok (u 29) w := dep hd 11 rfl
      rw [d29]
      exact Gv.run (.tuple #[.slice A L.length c, .int .i64 0]) rfl (by go_simp) ⟨_, _, rfl, g29⟩
    refine Obs.cons (fun u w hS hd => ?_) ?_
    · obtain ⟨A, c, d17, g17⟩ : (Know.sat (tupE L 0) tupE_keep).ok (u 17) w := dep hd 12 rfl
      rw [d17]
      exact Gv.run (.slice A L.length c) rfl (by go_simp) ⟨_, _, rfl, g17⟩
    refine Obs.cons (fun u w hS hd => ?_) ?_
    · obtain ⟨A, c, d17, g17⟩ : (Know.sat (tupE L 0) tupE_keep).ok (u 17) w := dep hd 12 rfl
      rw [d17]
      exact Gv.run (.int .i64 0) rfl (by go_simp) rfl
    refine Obs.cons (fun u w hS hd => ?_) ?_
    · obtain ⟨A30, c30, d30, g30⟩ : (Know.byt L).ok (u 30) w := dep hd 13 rfl
      rw [d30]
      exact Gv.run (.slice A30 L.length c30) rfl (by go_simp) ⟨_, _, rfl, g30⟩
    exact Obs.nil
  intro u wz hS hd
  obtain ⟨A5, c5, d5, g5⟩ : (Know.byt L).ok (u 5) wz := hd 15 (by decide)
  rw [d5]
  have d31 : u 31 = .int .i64 0 := hd 14 (by decide)
  rw [d31]
  clear hd d5 d31
  simp only [List.drop_succ_cons, List.drop_zero]
  clear HB KG
  obtain ⟨y2, ey⟩ : ∃ v, v = wz := ⟨_, rfl⟩
  rw [← ey] at g5 hS ⊢
  clear ey
  replace ob := OwnF.keep ob hS
  replace r0 := (r0.keep hS).mono hS.size
  replace q0 := (q0.keep hS).mono hS.size
  replace p0 := (p0.keep hS).mono hS.size
  replace hc := hc.trans (hS.mono hc.size)
  clear hS
  have kk0 : y2.cell? ⟨gk, 0, none⟩ = some (.slice A0 key.length c0) := OwnF.cell ob (k := 0) (by decide)
  have kk1 : y2.cell? ⟨gk, 1, none⟩ = some (.slice A1 nonce.length c1) := OwnF.cell ob (k := 1) (by decide)
  have kk2 : y2.cell? ⟨gk, 2, none⟩ = some (.int .u32 (ctr : Int)) := OwnF.cell ob (k := 2) (by decide)
  have kk3 : y2.cell? ⟨gk, 3, none⟩ = some (.slice A2 b.length c2) := OwnF.cell ob (k := 3) (by decide)
  have HB := Lib.hid (fun wz (hz : Below y2.heap.size y2 wz) => show wz.cell? ⟨gk, 0, none⟩ = some (.slice A0 key.length c0) ∧ wz.cell? ⟨gk, 1, none⟩ = some (.slice A1 nonce.length c1) ∧ wz.cell? ⟨gk, 2, none⟩ = some (.int .u32 (ctr : Int)) ∧ wz.cell? ⟨gk, 3, none⟩ = some (.slice A2 b.length c2) from
    ⟨OwnF.cell (OwnF.keep ob hz) (k := 0) (by decide), OwnF.cell (OwnF.keep ob hz) (k := 1) (by decide), OwnF.cell (OwnF.keep ob hz) (k := 2) (by decide), OwnF.cell (OwnF.keep ob hz) (k := 3) (by decide)⟩)
  have gl := HLB.out
  obtain ⟨gz1, gz2, gz3⟩ := HZ.out
  have gz4 := HKK.out
  go_upto_region 9 with fail
  clear kk0 kk1 kk2 kk3 gl gz1 gz2 gz3 gz4
  refine wp_region_inv 18 [54, 55, 56, 57, 58, 59, 60, 61, 62, 63, 64, 65, 66, 67, 53, 68, 69, 8] [.val (.pointer (some ⟨gk, 0, none⟩)), .byt key, .byt key, .val (.pointer (some ⟨gk, 1, none⟩)), .byt nonce, .byt nonce, .val (.pointer (some ⟨gk, 2, none⟩)), .val (.int .u32 (ctr : Int)), .val (.pointer (some ⟨gk, 3, none⟩)), .byt b, .val (.int .i64 (k : Int)), .byt T0, .byt T0, .sat (tupN F k 0) tupN_keep, .sat (tupN F k 0) tupN_keep, .byt F, .val (.int .i64 0), .byt F] (fun wz => Below y2.heap.size y2 wz) (by kernel_rfl) (by kernel_rfl) (fun wz wz' hz hb => hz.trans (hb.mono hz.size)) ((Below.refl _ _).drew) (fun u => by simp only [puts, List.foldl_cons, List.foldl_nil]; go_simp; exact rfl) ?_ ?_
  · simp only [List.take_succ_cons, List.take_zero]
    refine Obs.cons (fun u w hS hd => ?_) ?_
    · exact Gv.run (.pointer (some ⟨gk, 0, none⟩)) rfl (by go_simp) rfl
    refine Obs.cons (fun u w hS hd => ?_) ?_
    · have d54 : u 54 = .pointer (some ⟨gk, 0, none⟩) := dep hd 0 rfl
      rw [d54]
      obtain ⟨k0, k1, k2, k3⟩ := HB.out w hS
      exact Gv.run (.slice A0 key.length c0) rfl (by go_simp) ⟨_, _, rfl, (r0.keep hS).mono hS.size⟩
    refine Obs.cons (fun u w hS hd => ?_) ?_
    · obtain ⟨A55, c55, d55, g55⟩ : (Know.byt key).ok (u 55) w := dep hd 1 rfl
      rw [d55]
      refine Gv.call 11 #[.slice A55 key.length c55] rfl (by go_simp) ((own10_rd key _ _ w HL.out g55).mono ?_)
      rintro e w' ⟨A, c, rfl, R, hb⟩
      exact ⟨_, rfl, ⟨A, c, rfl, R⟩, hb⟩
    refine Obs.cons (fun u w hS hd => ?_) ?_
    · exact Gv.run (.pointer (some ⟨gk, 1, none⟩)) rfl (by go_simp) rfl
    refine Obs.cons (fun u w hS hd => ?_) ?_
    · have d57 : u 57 = .pointer (some ⟨gk, 1, none⟩) := dep hd 3 rfl
      rw [d57]
      obtain ⟨k0, k1, k2, k3⟩ := HB.out w hS
      exact Gv.run (.slice A1 nonce.length c1) rfl (by go_simp) ⟨_, _, rfl, (q0.keep hS).mono hS.size⟩
    refine Obs.cons (fun u w hS hd => ?_) ?_
    · obtain ⟨A58, c58, d58, g58⟩ : (Know.byt nonce).ok (u 58) w := dep hd 4 rfl
      rw [d58]
      refine Gv.call 11 #[.slice A58 nonce.length c58] rfl (by go_simp) ((own10_rd nonce _ _ w HM.out g58).mono ?_)
      rintro e w' ⟨A, c, rfl, R, hb⟩
      exact ⟨_, rfl, ⟨A, c, rfl, R⟩, hb⟩
    refine Obs.cons (fun u w hS hd => ?_) ?_
    · exact Gv.run (.pointer (some ⟨gk, 2, none⟩)) rfl (by go_simp) rfl
    refine Obs.cons (fun u w hS hd => ?_) ?_
    · have d60 : u 60 = .pointer (some ⟨gk, 2, none⟩) := dep hd 6 rfl
      rw [d60]
      obtain ⟨k0, k1, k2, k3⟩ := HB.out w hS
      exact Gv.run (.int .u32 (ctr : Int)) rfl (by go_simp) rfl
    refine Obs.cons (fun u w hS hd => ?_) ?_
    · exact Gv.run (.pointer (some ⟨gk, 3, none⟩)) rfl (by go_simp) rfl
    refine Obs.cons (fun u w hS hd => ?_) ?_
    · have d62 : u 62 = .pointer (some ⟨gk, 3, none⟩) := dep hd 8 rfl
      rw [d62]
      obtain ⟨k0, k1, k2, k3⟩ := HB.out w hS
      exact Gv.run (.slice A2 b.length c2) rfl (by go_simp) ⟨_, _, rfl, (p0.keep hS).mono hS.size⟩
    refine Obs.cons (fun u w hS hd => ?_) ?_
    · exact Gv.run (.int .i64 (k : Int)) rfl (by go_simp) rfl
    refine Obs.cons (fun u w hS hd => ?_) ?_
    · obtain ⟨A63, c63, d63, g63⟩ : (Know.byt b).ok (u 63) w := dep hd 9 rfl
      rw [d63]
      have d64 : u 64 = .int .i64 (k : Int) := dep hd 10 rfl
      rw [d64]
      have h65 := g63.sub_ (l := 0) (n := k) (by rw [Nat.zero_add]; exact HKB.out)
      rw [List.drop_zero, Nat.sub_zero, HTE.out] at h65
      have hc63 := g63.cap
      have hkb := HKB.out
      exact Gv.run (.slice (subA A63 c63 0) k c63) rfl (slice10_hi (h := k) rfl rfl rfl (by omega)) ⟨_, _, by rw [HT0.out], h65⟩
    refine Obs.cons (fun u w hS hd => ?_) ?_
    · obtain ⟨A65, c65, d65, g65⟩ : (Know.byt T0).ok (u 65) w := dep hd 11 rfl
      rw [HT0.out] at d65
      rw [d65]
      refine Gv.call 11 #[.slice A65 k c65] rfl (by go_simp) ((own10_n HT0.out HK4.out _ _ w g65).mono ?_)
      rintro e w' ⟨A, c, rfl, R, hb⟩
      exact ⟨_, rfl, ⟨A, c, by rw [HT0.out], R⟩, hb⟩
    refine Obs.cons (fun u w hS hd => ?_) ?_
    · obtain ⟨A56, c56, d56, g56⟩ : (Know.byt key).ok (u 56) w := dep hd 2 rfl
      rw [d56]
      obtain ⟨A59, c59, d59, g59⟩ : (Know.byt nonce).ok (u 59) w := dep hd 5 rfl
      rw [d59]
      have d61 : u 61 = .int .u32 (ctr : Int) := dep hd 7 rfl
      rw [d61]
      obtain ⟨A66, c66, d66, g66⟩ : (Know.byt T0).ok (u 66) w := dep hd 12 rfl
      rw [HT0.out] at d66
      rw [d66]
      refine Gv.call 14 #[.slice A56 key.length c56, .slice A59 nonce.length c59, .int .u32 (ctr : Int), .slice A66 k c66] rfl (by go_simp) ((KF.out _ _ _ _ _ _ w g56 g59 g66).mono ?_)
      rintro e w' ⟨A, c, rfl, R, hb⟩
      exact ⟨_, rfl, ⟨A, c, rfl, R⟩, hb⟩
    refine Obs.cons (fun u w hS hd => ?_) ?_
    · obtain ⟨A, c, d67, g67⟩ : (Know.sat (tupN F k 0) tupN_keep).ok (u 67) w := dep hd 13 rfl
      rw [d67]
      exact Gv.run (.tuple #[.slice A k c, .int .i64 0]) rfl (by go_simp) ⟨_, _, rfl, g67⟩
    refine Obs.cons (fun u w hS hd => ?_) ?_
    · obtain ⟨A, c, d53, g53⟩ : (Know.sat (tupN F k 0) tupN_keep).ok (u 53) w := dep hd 14 rfl
      rw [d53]
      exact Gv.run (.slice A k c) rfl (by go_simp) ⟨_, _, by rw [HF.out], g53⟩
    refine Obs.cons (fun u w hS hd => ?_) ?_
    · obtain ⟨A, c, d53, g53⟩ : (Know.sat (tupN F k 0) tupN_keep).ok (u 53) w := dep hd 14 rfl
      rw [d53]
      exact Gv.run (.int .i64 0) rfl (by go_simp) rfl
    refine Obs.cons (fun u w hS hd => ?_) ?_
    · obtain ⟨A68, c68, d68, g68⟩ : (Know.byt F).ok (u 68) w := dep hd 15 rfl
      rw [HF.out] at d68
      rw [d68]
      exact Gv.run (.slice A68 k c68) rfl (by go_simp) ⟨_, _, by rw [HF.out], g68⟩
    exact Obs.nil
  intro u wz hS hd
  obtain ⟨A8, c8, d8, g8⟩ : (Know.byt F).ok (u 8) wz := hd 17 (by decide)
  rw [HF.out] at d8
  rw [d8]
  have d69 : u 69 = .int .i64 0 := hd 16 (by decide)
  rw [d69]
  clear hd d8 d69
  simp only [List.drop_succ_cons, List.drop_zero]
  clear HB KF
  obtain ⟨y3, ey⟩ : ∃ v, v = wz := ⟨_, rfl⟩
  rw [← ey] at g8 hS ⊢
  clear ey
  replace ob := OwnF.keep ob hS
  replace r0 := (r0.keep hS).mono hS.size
  replace q0 := (q0.keep hS).mono hS.size
  replace p0 := (p0.keep hS).mono hS.size
  replace g5 := (g5.keep hS).mono hS.size
  replace hc := hc.trans (hS.mono hc.size)
  clear hS
  go_upto_region 10 with fail
  refine wp_region_inv 10 [70, 71, 72, 73, 74, 75, 76, 77, 78, 79] [.val (.int .i64 0), .val (.bool false), .val (.bool false), .byt F, .val (.string ⟨F.toArray⟩), .byt L, .val (.int .i64 (k : Int)), .byt F, .val (.string ⟨F.toArray⟩), .val (.bool false)] (fun wz => Below y3.heap.size y3 wz) (by kernel_rfl) (by kernel_rfl) (fun wz wz' hz hb => hz.trans (hb.mono hz.size)) ((Below.refl _ _).drew) (fun u => by simp only [puts, List.foldl_cons, List.foldl_nil]; go_simp; exact rfl) ?_ ?_
  · simp only [List.take_succ_cons, List.take_zero]
    refine Obs.cons (fun u w hS hd => ?_) ?_
    · exact Gv.run (.int .i64 0) rfl (by go_simp) rfl
    refine Obs.cons (fun u w hS hd => ?_) ?_
    · have d70 : u 70 = .int .i64 0 := dep hd 0 rfl
      rw [d70]
      exact Gv.run (.bool false) rfl (by go_simp) rfl
    refine Obs.cons (fun u w hS hd => ?_) ?_
    · have d71 : u 71 = .bool false := dep hd 1 rfl
      rw [d71]
      exact Gv.run (.bool false) rfl (by go_simp) rfl
    refine Obs.cons (fun u w hS hd => ?_) ?_
    · have d72 : u 72 = .bool false := dep hd 2 rfl
      rw [d72]
      exact Gv.run (.slice A8 k c8) rfl (by go_simp) (⟨_, _, by rw [HF.out], (g8.keep hS).mono hS.size⟩)
    refine Obs.cons (fun u w hS hd => ?_) ?_
    · have d72 : u 72 = .bool false := dep hd 2 rfl
      rw [d72]
      obtain ⟨A73, c73, d73, g73⟩ : (Know.byt F).ok (u 73) w := dep hd 3 rfl
      rw [HF.out] at d73
      rw [d73]
      exact Gv.run (.string ⟨F.toArray⟩) rfl (run_conv rfl rfl (str10 w HF.out g73)) rfl
    refine Obs.cons (fun u w hS hd => ?_) ?_
    · have d72 : u 72 = .bool false := dep hd 2 rfl
      rw [d72]
      exact Gv.run (.slice A5 L.length c5) rfl (by go_simp) (⟨_, _, rfl, (g5.keep hS).mono hS.size⟩)
    refine Obs.cons (fun u w hS hd => ?_) ?_
    · have d72 : u 72 = .bool false := dep hd 2 rfl
      rw [d72]
      exact Gv.run (.int .i64 (k : Int)) rfl (by go_simp) rfl
    refine Obs.cons (fun u w hS hd => ?_) ?_
    · have d72 : u 72 = .bool false := dep hd 2 rfl
      rw [d72]
      obtain ⟨A75, c75, d75, g75⟩ : (Know.byt L).ok (u 75) w := dep hd 5 rfl
      rw [d75]
      have d76 : u 76 = .int .i64 (k : Int) := dep hd 6 rfl
      rw [d76]
      have h77 := g75.sub_ (l := 0) (n := k) (by rw [Nat.zero_add]; exact HKL.out)
      rw [List.drop_zero, Nat.sub_zero, HFE.out] at h77
      have hc75 := g75.cap
      have hkb := HKL.out
      exact Gv.run (.slice (subA A75 c75 0) k c75) (by rfl) (slice10_hi (h := k) rfl rfl rfl (by omega)) ⟨_, _, by rw [HF.out], h77⟩
    refine Obs.cons (fun u w hS hd => ?_) ?_
    · have d72 : u 72 = .bool false := dep hd 2 rfl
      rw [d72]
      obtain ⟨A77, c77, d77, g77⟩ : (Know.byt F).ok (u 77) w := dep hd 7 rfl
      rw [HF.out] at d77
      rw [d77]
      exact Gv.run (.string ⟨F.toArray⟩) rfl (run_conv rfl rfl (str10 w HF.out g77)) rfl
    refine Obs.cons (fun u w hS hd => ?_) ?_
    · have d72 : u 72 = .bool false := dep hd 2 rfl
      rw [d72]
      have d74 : u 74 = .string ⟨F.toArray⟩ := dep hd 4 rfl
      rw [d74]
      have d78 : u 78 = .string ⟨F.toArray⟩ := dep hd 8 rfl
      rw [d78]
      exact Gv.run (.bool false) rfl (by go_simp) rfl
    exact Obs.nil
  intro u wz hS hd
  have d72 : u 72 = .bool false := hd 2 (by decide)
  rw [d72]
  have d79 : u 79 = .bool false := hd 9 (by decide)
  rw [d79]
  clear hd d72 d79
  simp only [List.drop_succ_cons, List.drop_zero]
  obtain ⟨y4, ey⟩ : ∃ v, v = wz := ⟨_, rfl⟩
  rw [← ey] at hS ⊢
  clear ey
  replace ob := OwnF.keep ob hS
  replace r0 := (r0.keep hS).mono hS.size
  replace q0 := (q0.keep hS).mono hS.size
  replace p0 := (p0.keep hS).mono hS.size
  replace g5 := (g5.keep hS).mono hS.size
  replace hc := hc.trans (hS.mono hc.size)
  clear hS
  have kk0 : y4.cell? ⟨gk, 0, none⟩ = some (.slice A0 key.length c0) := OwnF.cell ob (k := 0) (by decide)
  have kk1 : y4.cell? ⟨gk, 1, none⟩ = some (.slice A1 nonce.length c1) := OwnF.cell ob (k := 1) (by decide)
  have kk2 : y4.cell? ⟨gk, 2, none⟩ = some (.int .u32 (ctr : Int)) := OwnF.cell ob (k := 2) (by decide)
  have kk3 : y4.cell? ⟨gk, 3, none⟩ = some (.slice A2 b.length c2) := OwnF.cell ob (k := 3) (by decide)
  have HB := Lib.hid (fun wz (hz : Below y4.heap.size y4 wz) => show wz.cell? ⟨gk, 0, none⟩ = some (.slice A0 key.length c0) ∧ wz.cell? ⟨gk, 1, none⟩ = some (.slice A1 nonce.length c1) ∧ wz.cell? ⟨gk, 2, none⟩ = some (.int .u32 (ctr : Int)) ∧ wz.cell? ⟨gk, 3, none⟩ = some (.slice A2 b.length c2) from
    ⟨OwnF.cell (OwnF.keep ob hz) (k := 0) (by decide), OwnF.cell (OwnF.keep ob hz) (k := 1) (by decide), OwnF.cell (OwnF.keep ob hz) (k := 2) (by decide), OwnF.cell (OwnF.keep ob hz) (k := 3) (by decide)⟩)
  have g9 := HR9.out
  have g10 := HR8.out
  have g11 := HEND.out
  go_wp2_with fail
  go_at_call 10
  refine (awake10 y4).mono ?_
  rintro e y5 ⟨rfl, h0⟩
  replace hc := hc.trans (h0.mono hc.size)
  go_wp2_with fail
  go_ret
  exact ⟨rfl, hc⟩
set_option maxHeartbeats 6400000 in
theorem begins_yes {A0 A1 A2 : Option Addr} {c0 c1 c2 ctr at_ k k1 n1 cq q1 : Nat} {key nonce b L T0 F T1 G : List UInt8} (hl : key.length ≤ 140737488355328) (hm : nonce.length ≤ 140737488355328) (hb : b.length ≤ 4000) (hLb : L.length = b.length) (hat : at_ < 65536) (hk : k = at_ % (b.length + 1)) (hk1 : k1 = k - k % 64) (hT0 : b.take k = T0) (hF : L.take k = F) (hend : k1 ≠ b.length) (hq1 : q1 = k1 / 64) (hcq : cq = (ctr + q1) % 4294967296) (hn1 : n1 = b.length - k1) (hT1 : b.drop k1 = T1) (hG : L.drop k1 = G)
    (kg : ∀ (A B C : Option Addr) (c d e0 : Nat) (w : World), Rd w w.heap.size A c key → Rd w w.heap.size B d nonce → Rd w w.heap.size C e0 b → Calls Try.prog 14 #[.slice A key.length c, .slice B nonce.length d, .int .u32 (ctr : Int), .slice C b.length e0] w fun e w' => ∃ A2 c2, e = .returned (.tuple #[.slice A2 L.length c2, .int .i64 0]) ∧ Rd w' w'.heap.size A2 c2 L ∧ Below w.heap.size w w')
    (kf : ∀ (A B C : Option Addr) (c d e0 : Nat) (w : World), Rd w w.heap.size A c key → Rd w w.heap.size B d nonce → Rd w w.heap.size C e0 T0 → Calls Try.prog 14 #[.slice A key.length c, .slice B nonce.length d, .int .u32 (ctr : Int), .slice C k e0] w fun e w' => ∃ A2 c2, e = .returned (.tuple #[.slice A2 k c2, .int .i64 0]) ∧ Rd w' w'.heap.size A2 c2 F ∧ Below w.heap.size w w')
    (kb : ∀ (A B C : Option Addr) (c d e0 : Nat) (w : World), Rd w w.heap.size A c key → Rd w w.heap.size B d nonce → Rd w w.heap.size C e0 T1 → Calls Try.prog 14 #[.slice A key.length c, .slice B nonce.length d, .int .u32 (cq : Int), .slice C n1 e0] w fun e w' => ∃ A2 c2, e = .returned (.tuple #[.slice A2 n1 c2, .int .i64 0]) ∧ Rd w' w'.heap.size A2 c2 G ∧ Below w.heap.size w w')
    (w : World) (r0 : Rd w w.heap.size A0 c0 key) (q0 : Rd w w.heap.size A1 c1 nonce) (p0 : Rd w w.heap.size A2 c2 b) : Calls Try.prog 7 #[.agg (sealV A0 key.length c0 A1 nonce.length c1 ctr A2 b.length c2), .int .u16 (at_ : Int)] w fun e w' => e = .returned (.bool true) ∧ Below w.heap.size w w' := by
  have KG := Lib.hid kg
  have KF := Lib.hid kf
  have KB := Lib.hid kb
  have HEND := Lib.hid (show ((k1 : Int) == (b.length : Int)) = false by simp; omega)
  have HT1 := Lib.hid (show T1.length = n1 by rw [← hT1, List.length_drop]; omega)
  have HG1 := Lib.hid (show G.length = n1 by rw [← hG, List.length_drop]; omega)
  have HT1E := Lib.hid hT1
  have HG1E := Lib.hid hG
  have HN4 := Lib.hid (show n1 ≤ 140737488355328 by omega)
  have HN1 := Lib.hid (show b.length - k1 = n1 by omega)
  have HN1L := Lib.hid (show L.length - k1 = n1 by omega)
  have HQ1 := Lib.hid (show (k1 : Int).tdiv 64 = (q1 : Int) by rw [Int.tdiv_eq_ediv_of_nonneg (by omega)]; omega)
  have hkb : k ≤ b.length := by have := Nat.mod_lt at_ (show 0 < b.length + 1 by omega); omega
  have HT0 := Lib.hid (show T0.length = k by rw [← hT0, List.length_take]; omega)
  have HF := Lib.hid (show F.length = k by rw [← hF, List.length_take]; omega)
  have HTE := Lib.hid hT0
  have HFE := Lib.hid hF
  have HKB := Lib.hid hkb
  have HKL := Lib.hid (show k ≤ L.length by omega)
  have HK4 := Lib.hid (show k ≤ 140737488355328 by omega)
  have HLB := Lib.hid (show ((L.length : Int) != (b.length : Int)) = false by rw [hLb]; simp)
  obtain ⟨m9, em9⟩ : ∃ m, m = b.length + 1 := ⟨_, rfl⟩
  have HZ := Lib.hid (And.intro (show IntKind.i64.wrap (at_ : Int) = (at_ : Int) by rw [IntKind.wrap_i64]; omega) (And.intro (show IntKind.i64.wrap ((b.length : Int) + 1) = (m9 : Int) by rw [IntKind.wrap_i64]; omega) (show ¬ (m9 : Int) = 0 by omega)))
  have HKK := Lib.hid (show (at_ : Int).tmod (m9 : Int) = (k : Int) by rw [Int.tmod_eq_emod_of_nonneg (by omega), hk, em9]; rfl)
  obtain ⟨r9, er9⟩ : ∃ r, r = k % 64 := ⟨_, rfl⟩
  have HR9 := Lib.hid (show (k : Int).tmod 64 = (r9 : Int) by rw [Int.tmod_eq_emod_of_nonneg (by omega)]; omega)
  have HR8 := Lib.hid (show IntKind.i64.wrap ((k : Int) - (r9 : Int)) = (k1 : Int) by rw [IntKind.wrap_i64]; omega)
  have HK1 := Lib.hid (show k1 ≤ b.length by omega)
  have HK1L := Lib.hid (show k1 ≤ L.length by omega)
  have HQ0 := Lib.hid (show IntKind.i64.wrap (q1 : Int) = (q1 : Int) by rw [IntKind.wrap_i64]; omega)
  have HQ2 := Lib.hid (show IntKind.u32.wrap (q1 : Int) = (q1 : Int) by rw [IntKind.wrap_u32]; omega)
  have HQ3 := Lib.hid (show IntKind.u32.wrap ((ctr : Int) + (q1 : Int)) = (cq : Int) by rw [IntKind.wrap_u32]; omega)
  clear kg kf kb hend hLb hat hk hk1 hT0 hF hkb em9 er9 hT1 hG hn1 hq1 hcq
  have HL := Lib.hid hl
  have HM := Lib.hid hm
  have HN := Lib.hid (show b.length ≤ 140737488355328 by omega)
  have gb : ¬ (4000 : Int) < (b.length : Int) := by omega
  clear hl hm hb
  have ob := OwnF.lit (w := w) (B := w.heap.size) 37 (Nat.le_refl _) (sealV A0 key.length c0 A1 nonce.length c1 ctr A2 b.length c2) 4 (sealF A0 key.length c0 A1 nonce.length c1 ctr A2 b.length c2) (by decide) (by rfl)
  have hc := (Below.refl w.heap.size w).alloc (Nat.le_refl _) (.cells (sealV A0 key.length c0 A1 nonce.length c1 ctr A2 b.length c2) 37)
  go_enter Try.func7, Try.ntmps7
  go_upto_region 1 with fail
  obtain ⟨v1, e1⟩ : ∃ v, v = w.alloc (.cells (sealV A0 key.length c0 A1 nonce.length c1 ctr A2 b.length c2) 37) := ⟨_, rfl⟩
  obtain ⟨gk, eg⟩ : ∃ g, g = w.heap.size := ⟨_, rfl⟩
  rw [← e1] at ob hc ⊢
  replace ob : OwnF v1 w.heap.size 37 (some ⟨gk, 0, none⟩) 4 4 (sealF A0 key.length c0 A1 nonce.length c1 ctr A2 b.length c2) := by rw [eg]; exact ob
  rw [show Value.pointer (some ⟨w.heap.size, 0, none⟩) = .pointer (some ⟨gk, 0, none⟩) by rw [eg]]
  clear e1 eg
  replace r0 := (r0.keep hc).mono hc.size
  replace q0 := (q0.keep hc).mono hc.size
  replace p0 := (p0.keep hc).mono hc.size
  have HB := Lib.hid (fun wz (hz : Below v1.heap.size v1 wz) => show wz.cell? ⟨gk, 0, none⟩ = some (.slice A0 key.length c0) ∧ wz.cell? ⟨gk, 1, none⟩ = some (.slice A1 nonce.length c1) ∧ wz.cell? ⟨gk, 2, none⟩ = some (.int .u32 (ctr : Int)) ∧ wz.cell? ⟨gk, 3, none⟩ = some (.slice A2 b.length c2) from
    ⟨OwnF.cell (OwnF.keep ob hz) (k := 0) (by decide), OwnF.cell (OwnF.keep ob hz) (k := 1) (by decide), OwnF.cell (OwnF.keep ob hz) (k := 2) (by decide), OwnF.cell (OwnF.keep ob hz) (k := 3) (by decide)⟩)
  have kk0 : v1.cell? ⟨gk, 0, none⟩ = some (.slice A0 key.length c0) := OwnF.cell ob (k := 0) (by decide)
  have kk1 : v1.cell? ⟨gk, 1, none⟩ = some (.slice A1 nonce.length c1) := OwnF.cell ob (k := 1) (by decide)
  have kk2 : v1.cell? ⟨gk, 2, none⟩ = some (.int .u32 (ctr : Int)) := OwnF.cell ob (k := 2) (by decide)
  have kk3 : v1.cell? ⟨gk, 3, none⟩ = some (.slice A2 b.length c2) := OwnF.cell ob (k := 3) (by decide)
  go_upto_region 3 with fail
  clear gb kk0 kk1 kk2 kk3
  refine wp_region_inv 16 [18, 19, 20, 21, 22, 23, 24, 25, 26, 27, 28, 29, 17, 30, 31, 5] [.val (.pointer (some ⟨gk, 0, none⟩)), .byt key, .byt key, .val (.pointer (some ⟨gk, 1, none⟩)), .byt nonce, .byt nonce, .val (.pointer (some ⟨gk, 2, none⟩)), .val (.int .u32 (ctr : Int)), .val (.pointer (some ⟨gk, 3, none⟩)), .byt b, .byt b, .sat (tupE L 0) tupE_keep, .sat (tupE L 0) tupE_keep, .byt L, .val (.int .i64 0), .byt L] (fun wz => Below v1.heap.size v1 wz) (by kernel_rfl) (by kernel_rfl) (fun wz wz' hz hb => hz.trans (hb.mono hz.size)) ((Below.refl _ _).drew) (fun u => by simp only [puts, List.foldl_cons, List.foldl_nil]; go_simp; exact rfl) ?_ ?_
  · simp only [List.take_succ_cons, List.take_zero]
    refine Obs.cons (fun u w hS hd => ?_) ?_
    · exact Gv.run (.pointer (some ⟨gk, 0, none⟩)) rfl (by go_simp) rfl
    refine Obs.cons (fun u w hS hd => ?_) ?_
    · have d18 : u 18 = .pointer (some ⟨gk, 0, none⟩) := dep hd 0 rfl
      rw [d18]
      obtain ⟨k0, k1, k2, k3⟩ := HB.out w hS
      exact Gv.run (.slice A0 key.length c0) rfl (by go_simp) ⟨_, _, rfl, (r0.keep hS).mono hS.size⟩
    refine Obs.cons (fun u w hS hd => ?_) ?_
    · obtain ⟨A19, c19, d19, g19⟩ : (Know.byt key).ok (u 19) w := dep hd 1 rfl
      rw [d19]
      refine Gv.call 11 #[.slice A19 key.length c19] rfl (by go_simp) ((own10_rd key _ _ w HL.out g19).mono ?_)
      rintro e w' ⟨A, c, rfl, R, hb⟩
      exact ⟨_, rfl, ⟨A, c, rfl, R⟩, hb⟩
    refine Obs.cons (fun u w hS hd => ?_) ?_
    · exact Gv.run (.pointer (some ⟨gk, 1, none⟩)) rfl (by go_simp) rfl
    refine Obs.cons (fun u w hS hd => ?_) ?_
    · have d21 : u 21 = .pointer (some ⟨gk, 1, none⟩) := dep hd 3 rfl
      rw [d21]
      obtain ⟨k0, k1, k2, k3⟩ := HB.out w hS
      exact Gv.run (.slice A1 nonce.length c1) rfl (by go_simp) ⟨_, _, rfl, (q0.keep hS).mono hS.size⟩
    refine Obs.cons (fun u w hS hd => ?_) ?_
    · obtain ⟨A22, c22, d22, g22⟩ : (Know.byt nonce).ok (u 22) w := dep hd 4 rfl
      rw [d22]
      refine Gv.call 11 #[.slice A22 nonce.length c22] rfl (by go_simp) ((own10_rd nonce _ _ w HM.out g22).mono ?_)
      rintro e w' ⟨A, c, rfl, R, hb⟩
      exact ⟨_, rfl, ⟨A, c, rfl, R⟩, hb⟩
    refine Obs.cons (fun u w hS hd => ?_) ?_
    · exact Gv.run (.pointer (some ⟨gk, 2, none⟩)) rfl (by go_simp) rfl
    refine Obs.cons (fun u w hS hd => ?_) ?_
    · have d24 : u 24 = .pointer (some ⟨gk, 2, none⟩) := dep hd 6 rfl
      rw [d24]
      obtain ⟨k0, k1, k2, k3⟩ := HB.out w hS
      exact Gv.run (.int .u32 (ctr : Int)) rfl (by go_simp) rfl
    refine Obs.cons (fun u w hS hd => ?_) ?_
    · exact Gv.run (.pointer (some ⟨gk, 3, none⟩)) rfl (by go_simp) rfl
    refine Obs.cons (fun u w hS hd => ?_) ?_
    · have d26 : u 26 = .pointer (some ⟨gk, 3, none⟩) := dep hd 8 rfl
      rw [d26]
      obtain ⟨k0, k1, k2, k3⟩ := HB.out w hS
      exact Gv.run (.slice A2 b.length c2) rfl (by go_simp) ⟨_, _, rfl, (p0.keep hS).mono hS.size⟩
    refine Obs.cons (fun u w hS hd => ?_) ?_
    · obtain ⟨A27, c27, d27, g27⟩ : (Know.byt b).ok (u 27) w := dep hd 9 rfl
      rw [d27]
      refine Gv.call 11 #[.slice A27 b.length c27] rfl (by go_simp) ((own10_rd b _ _ w HN.out g27).mono ?_)
      rintro e w' ⟨A, c, rfl, R, hb⟩
      exact ⟨_, rfl, ⟨A, c, rfl, R⟩, hb⟩
    refine Obs.cons (fun u w hS hd => ?_) ?_
    · obtain ⟨A20, c20, d20, g20⟩ : (Know.byt key).ok (u 20) w := dep hd 2 rfl
      rw [d20]
      obtain ⟨A23, c23, d23, g23⟩ : (Know.byt nonce).ok (u 23) w := dep hd 5 rfl
      rw [d23]
      have d25 : u 25 = .int .u32 (ctr : Int) := dep hd 7 rfl
      rw [d25]
      obtain ⟨A28, c28, d28, g28⟩ : (Know.byt b).ok (u 28) w := dep hd 10 rfl
      rw [d28]
      refine Gv.call 14 #[.slice A20 key.length c20, .slice A23 nonce.length c23, .int .u32 (ctr : Int), .slice A28 b.length c28] rfl (by go_simp) ((KG.out _ _ _ _ _ _ w g20 g23 g28).mono ?_)
      rintro e w' ⟨A, c, rfl, R, hb⟩
      exact ⟨_, rfl, ⟨A, c, rfl, R⟩, hb⟩
    refine Obs.cons (fun u w hS hd => ?_) ?_
    · obtain ⟨A, c, d29, g29⟩ : (Know.sat (tupE L 0) tupE_keep).ok (u 29) w := dep hd 11 rfl
      rw [d29]
      exact Gv.run (.tuple #[.slice A L.length c, .int .i64 0]) rfl (by go_simp) ⟨_, _, rfl, g29⟩
    refine Obs.cons (fun u w hS hd => ?_) ?_
    · obtain ⟨A, c, d17, g17⟩ : (Know.sat (tupE L 0) tupE_keep).ok (u 17) w := dep hd 12 rfl
      rw [d17]
      exact Gv.run (.slice A L.length c) rfl (by go_simp) ⟨_, _, rfl, g17⟩
    refine Obs.cons (fun u w hS hd => ?_) ?_
    · obtain ⟨A, c, d17, g17⟩ : (Know.sat (tupE L 0) tupE_keep).ok (u 17) w := dep hd 12 rfl
      rw [d17]
      exact Gv.run (.int .i64 0) rfl (by go_simp) rfl
    refine Obs.cons (fun u w hS hd => ?_) ?_
    · obtain ⟨A30, c30, d30, g30⟩ : (Know.byt L).ok (u 30) w := dep hd 13 rfl
      rw [d30]
      exact Gv.run (.slice A30 L.length c30) rfl (by go_simp) ⟨_, _, rfl, g30⟩
    exact Obs.nil
  intro u wz hS hd
  obtain ⟨A5, c5, d5, g5⟩ : (Know.byt L).ok (u 5) wz := hd 15 (by decide)
  rw [d5]
  have d31 : u 31 = .int .i64 0 := hd 14 (by decide)
  rw [d31]
  clear hd d5 d31
  simp only [List.drop_succ_cons, List.drop_zero]
  clear HB KG
  obtain ⟨y2, ey⟩ : ∃ v, v = wz := ⟨_, rfl⟩
  rw [← ey] at g5 hS ⊢
  clear ey
  replace ob := OwnF.keep ob hS
  replace r0 := (r0.keep hS).mono hS.size
  replace q0 := (q0.keep hS).mono hS.size
  replace p0 := (p0.keep hS).mono hS.size
  replace hc := hc.trans (hS.mono hc.size)
  clear hS
  have kk0 : y2.cell? ⟨gk, 0, none⟩ = some (.slice A0 key.length c0) := OwnF.cell ob (k := 0) (by decide)
  have kk1 : y2.cell? ⟨gk, 1, none⟩ = some (.slice A1 nonce.length c1) := OwnF.cell ob (k := 1) (by decide)
  have kk2 : y2.cell? ⟨gk, 2, none⟩ = some (.int .u32 (ctr : Int)) := OwnF.cell ob (k := 2) (by decide)
  have kk3 : y2.cell? ⟨gk, 3, none⟩ = some (.slice A2 b.length c2) := OwnF.cell ob (k := 3) (by decide)
  have HB := Lib.hid (fun wz (hz : Below y2.heap.size y2 wz) => show wz.cell? ⟨gk, 0, none⟩ = some (.slice A0 key.length c0) ∧ wz.cell? ⟨gk, 1, none⟩ = some (.slice A1 nonce.length c1) ∧ wz.cell? ⟨gk, 2, none⟩ = some (.int .u32 (ctr : Int)) ∧ wz.cell? ⟨gk, 3, none⟩ = some (.slice A2 b.length c2) from
    ⟨OwnF.cell (OwnF.keep ob hz) (k := 0) (by decide), OwnF.cell (OwnF.keep ob hz) (k := 1) (by decide), OwnF.cell (OwnF.keep ob hz) (k := 2) (by decide), OwnF.cell (OwnF.keep ob hz) (k := 3) (by decide)⟩)
  have gl := HLB.out
  obtain ⟨gz1, gz2, gz3⟩ := HZ.out
  have gz4 := HKK.out
  go_upto_region 9 with fail
  clear kk0 kk1 kk2 kk3 gl gz1 gz2 gz3 gz4
  refine wp_region_inv 18 [54, 55, 56, 57, 58, 59, 60, 61, 62, 63, 64, 65, 66, 67, 53, 68, 69, 8] [.val (.pointer (some ⟨gk, 0, none⟩)), .byt key, .byt key, .val (.pointer (some ⟨gk, 1, none⟩)), .byt nonce, .byt nonce, .val (.pointer (some ⟨gk, 2, none⟩)), .val (.int .u32 (ctr : Int)), .val (.pointer (some ⟨gk, 3, none⟩)), .byt b, .val (.int .i64 (k : Int)), .byt T0, .byt T0, .sat (tupN F k 0) tupN_keep, .sat (tupN F k 0) tupN_keep, .byt F, .val (.int .i64 0), .byt F] (fun wz => Below y2.heap.size y2 wz) (by kernel_rfl) (by kernel_rfl) (fun wz wz' hz hb => hz.trans (hb.mono hz.size)) ((Below.refl _ _).drew) (fun u => by simp only [puts, List.foldl_cons, List.foldl_nil]; go_simp; exact rfl) ?_ ?_
  · simp only [List.take_succ_cons, List.take_zero]
    refine Obs.cons (fun u w hS hd => ?_) ?_
    · exact Gv.run (.pointer (some ⟨gk, 0, none⟩)) rfl (by go_simp) rfl
    refine Obs.cons (fun u w hS hd => ?_) ?_
    · have d54 : u 54 = .pointer (some ⟨gk, 0, none⟩) := dep hd 0 rfl
      rw [d54]
      obtain ⟨k0, k1, k2, k3⟩ := HB.out w hS
      exact Gv.run (.slice A0 key.length c0) rfl (by go_simp) ⟨_, _, rfl, (r0.keep hS).mono hS.size⟩
    refine Obs.cons (fun u w hS hd => ?_) ?_
    · obtain ⟨A55, c55, d55, g55⟩ : (Know.byt key).ok (u 55) w := dep hd 1 rfl
      rw [d55]
      refine Gv.call 11 #[.slice A55 key.length c55] rfl (by go_simp) ((own10_rd key _ _ w HL.out g55).mono ?_)
      rintro e w' ⟨A, c, rfl, R, hb⟩
      exact ⟨_, rfl, ⟨A, c, rfl, R⟩, hb⟩
    refine Obs.cons (fun u w hS hd => ?_) ?_
    · exact Gv.run (.pointer (some ⟨gk, 1, none⟩)) rfl (by go_simp) rfl
    refine Obs.cons (fun u w hS hd => ?_) ?_
    · have d57 : u 57 = .pointer (some ⟨gk, 1, none⟩) := dep hd 3 rfl
      rw [d57]
      obtain ⟨k0, k1, k2, k3⟩ := HB.out w hS
      exact Gv.run (.slice A1 nonce.length c1) rfl (by go_simp) ⟨_, _, rfl, (q0.keep hS).mono hS.size⟩
    refine Obs.cons (fun u w hS hd => ?_) ?_
    · obtain ⟨A58, c58, d58, g58⟩ : (Know.byt nonce).ok (u 58) w := dep hd 4 rfl
      rw [d58]
      refine Gv.call 11 #[.slice A58 nonce.length c58] rfl (by go_simp) ((own10_rd nonce _ _ w HM.out g58).mono ?_)
      rintro e w' ⟨A, c, rfl, R, hb⟩
      exact ⟨_, rfl, ⟨A, c, rfl, R⟩, hb⟩
    refine Obs.cons (fun u w hS hd => ?_) ?_
    · exact Gv.run (.pointer (some ⟨gk, 2, none⟩)) rfl (by go_simp) rfl
    refine Obs.cons (fun u w hS hd => ?_) ?_
    · have d60 : u 60 = .pointer (some ⟨gk, 2, none⟩) := dep hd 6 rfl
      rw [d60]
      obtain ⟨k0, k1, k2, k3⟩ := HB.out w hS
      exact Gv.run (.int .u32 (ctr : Int)) rfl (by go_simp) rfl
    refine Obs.cons (fun u w hS hd => ?_) ?_
    · exact Gv.run (.pointer (some ⟨gk, 3, none⟩)) rfl (by go_simp) rfl
    refine Obs.cons (fun u w hS hd => ?_) ?_
    · have d62 : u 62 = .pointer (some ⟨gk, 3, none⟩) := dep hd 8 rfl
      rw [d62]
      obtain ⟨k0, k1, k2, k3⟩ := HB.out w hS
      exact Gv.run (.slice A2 b.length c2) rfl (by go_simp) ⟨_, _, rfl, (p0.keep hS).mono hS.size⟩
    refine Obs.cons (fun u w hS hd => ?_) ?_
    · exact Gv.run (.int .i64 (k : Int)) rfl (by go_simp) rfl
    refine Obs.cons (fun u w hS hd => ?_) ?_
    · obtain ⟨A63, c63, d63, g63⟩ : (Know.byt b).ok (u 63) w := dep hd 9 rfl
      rw [d63]
      have d64 : u 64 = .int .i64 (k : Int) := dep hd 10 rfl
      rw [d64]
      have h65 := g63.sub_ (l := 0) (n := k) (by rw [Nat.zero_add]; exact HKB.out)
      rw [List.drop_zero, Nat.sub_zero, HTE.out] at h65
      have hc63 := g63.cap
      have hkb := HKB.out
      exact Gv.run (.slice (subA A63 c63 0) k c63) rfl (slice10_hi (h := k) rfl rfl rfl (by omega)) ⟨_, _, by rw [HT0.out], h65⟩
    refine Obs.cons (fun u w hS hd => ?_) ?_
    · obtain ⟨A65, c65, d65, g65⟩ : (Know.byt T0).ok (u 65) w := dep hd 11 rfl
      rw [HT0.out] at d65
      rw [d65]
      refine Gv.call 11 #[.slice A65 k c65] rfl (by go_simp) ((own10_n HT0.out HK4.out _ _ w g65).mono ?_)
      rintro e w' ⟨A, c, rfl, R, hb⟩
      exact ⟨_, rfl, ⟨A, c, by rw [HT0.out], R⟩, hb⟩
    refine Obs.cons (fun u w hS hd => ?_) ?_
    · obtain ⟨A56, c56, d56, g56⟩ : (Know.byt key).ok (u 56) w := dep hd 2 rfl
      rw [d56]
      obtain ⟨A59, c59, d59, g59⟩ : (Know.byt nonce).ok (u 59) w := dep hd 5 rfl
      rw [d59]
      have d61 : u 61 = .int .u32 (ctr : Int) := dep hd 7 rfl
      rw [d61]
      obtain ⟨A66, c66, d66, g66⟩ : (Know.byt T0).ok (u 66) w := dep hd 12 rfl
      rw [HT0.out] at d66
      rw [d66]
      refine Gv.call 14 #[.slice A56 key.length c56, .slice A59 nonce.length c59, .int .u32 (ctr : Int), .slice A66 k c66] rfl (by go_simp) ((KF.out _ _ _ _ _ _ w g56 g59 g66).mono ?_)
      rintro e w' ⟨A, c, rfl, R, hb⟩
      exact ⟨_, rfl, ⟨A, c, rfl, R⟩, hb⟩
    refine Obs.cons (fun u w hS hd => ?_) ?_
    · obtain ⟨A, c, d67, g67⟩ : (Know.sat (tupN F k 0) tupN_keep).ok (u 67) w := dep hd 13 rfl
      rw [d67]
      exact Gv.run (.tuple #[.slice A k c, .int .i64 0]) rfl (by go_simp) ⟨_, _, rfl, g67⟩
    refine Obs.cons (fun u w hS hd => ?_) ?_
    · obtain ⟨A, c, d53, g53⟩ : (Know.sat (tupN F k 0) tupN_keep).ok (u 53) w := dep hd 14 rfl
      rw [d53]
      exact Gv.run (.slice A k c) rfl (by go_simp) ⟨_, _, by rw [HF.out], g53⟩
    refine Obs.cons (fun u w hS hd => ?_) ?_
    · obtain ⟨A, c, d53, g53⟩ : (Know.sat (tupN F k 0) tupN_keep).ok (u 53) w := dep hd 14 rfl
      rw [d53]
      exact Gv.run (.int .i64 0) rfl (by go_simp) rfl
    refine Obs.cons (fun u w hS hd => ?_) ?_
    · obtain ⟨A68, c68, d68, g68⟩ : (Know.byt F).ok (u 68) w := dep hd 15 rfl
      rw [HF.out] at d68
      rw [d68]
      exact Gv.run (.slice A68 k c68) rfl (by go_simp) ⟨_, _, by rw [HF.out], g68⟩
    exact Obs.nil
  intro u wz hS hd
  obtain ⟨A8, c8, d8, g8⟩ : (Know.byt F).ok (u 8) wz := hd 17 (by decide)
  rw [HF.out] at d8
  rw [d8]
  have d69 : u 69 = .int .i64 0 := hd 16 (by decide)
  rw [d69]
  clear hd d8 d69
  simp only [List.drop_succ_cons, List.drop_zero]
  clear HB KF
  obtain ⟨y3, ey⟩ : ∃ v, v = wz := ⟨_, rfl⟩
  rw [← ey] at g8 hS ⊢
  clear ey
  replace ob := OwnF.keep ob hS
  replace r0 := (r0.keep hS).mono hS.size
  replace q0 := (q0.keep hS).mono hS.size
  replace p0 := (p0.keep hS).mono hS.size
  replace g5 := (g5.keep hS).mono hS.size
  replace hc := hc.trans (hS.mono hc.size)
  clear hS
  go_upto_region 10 with fail
  refine wp_region_inv 10 [70, 71, 72, 73, 74, 75, 76, 77, 78, 79] [.val (.int .i64 0), .val (.bool false), .val (.bool false), .byt F, .val (.string ⟨F.toArray⟩), .byt L, .val (.int .i64 (k : Int)), .byt F, .val (.string ⟨F.toArray⟩), .val (.bool false)] (fun wz => Below y3.heap.size y3 wz) (by kernel_rfl) (by kernel_rfl) (fun wz wz' hz hb => hz.trans (hb.mono hz.size)) ((Below.refl _ _).drew) (fun u => by simp only [puts, List.foldl_cons, List.foldl_nil]; go_simp; exact rfl) ?_ ?_
  · simp only [List.take_succ_cons, List.take_zero]
    refine Obs.cons (fun u w hS hd => ?_) ?_
    · exact Gv.run (.int .i64 0) rfl (by go_simp) rfl
    refine Obs.cons (fun u w hS hd => ?_) ?_
    · have d70 : u 70 = .int .i64 0 := dep hd 0 rfl
      rw [d70]
      exact Gv.run (.bool false) rfl (by go_simp) rfl
    refine Obs.cons (fun u w hS hd => ?_) ?_
    · have d71 : u 71 = .bool false := dep hd 1 rfl
      rw [d71]
      exact Gv.run (.bool false) rfl (by go_simp) rfl
    refine Obs.cons (fun u w hS hd => ?_) ?_
    · have d72 : u 72 = .bool false := dep hd 2 rfl
      rw [d72]
      exact Gv.run (.slice A8 k c8) rfl (by go_simp) (⟨_, _, by rw [HF.out], (g8.keep hS).mono hS.size⟩)
    refine Obs.cons (fun u w hS hd => ?_) ?_
    · have d72 : u 72 = .bool false := dep hd 2 rfl
      rw [d72]
      obtain ⟨A73, c73, d73, g73⟩ : (Know.byt F).ok (u 73) w := dep hd 3 rfl
      rw [HF.out] at d73
      rw [d73]
      exact Gv.run (.string ⟨F.toArray⟩) rfl (run_conv rfl rfl (str10 w HF.out g73)) rfl
    refine Obs.cons (fun u w hS hd => ?_) ?_
    · have d72 : u 72 = .bool false := dep hd 2 rfl
      rw [d72]
      exact Gv.run (.slice A5 L.length c5) rfl (by go_simp) (⟨_, _, rfl, (g5.keep hS).mono hS.size⟩)
    refine Obs.cons (fun u w hS hd => ?_) ?_
    · have d72 : u 72 = .bool false := dep hd 2 rfl
      rw [d72]
      exact Gv.run (.int .i64 (k : Int)) rfl (by go_simp) rfl
    refine Obs.cons (fun u w hS hd => ?_) ?_
    · have d72 : u 72 = .bool false := dep hd 2 rfl
      rw [d72]
      obtain ⟨A75, c75, d75, g75⟩ : (Know.byt L).ok (u 75) w := dep hd 5 rfl
      rw [d75]
      have d76 : u 76 = .int .i64 (k : Int) := dep hd 6 rfl
      rw [d76]
      have h77 := g75.sub_ (l := 0) (n := k) (by rw [Nat.zero_add]; exact HKL.out)
      rw [List.drop_zero, Nat.sub_zero, HFE.out] at h77
      have hc75 := g75.cap
      have hkb := HKL.out
      exact Gv.run (.slice (subA A75 c75 0) k c75) (by rfl) (slice10_hi (h := k) rfl rfl rfl (by omega)) ⟨_, _, by rw [HF.out], h77⟩
    refine Obs.cons (fun u w hS hd => ?_) ?_
    · have d72 : u 72 = .bool false := dep hd 2 rfl
      rw [d72]
      obtain ⟨A77, c77, d77, g77⟩ : (Know.byt F).ok (u 77) w := dep hd 7 rfl
      rw [HF.out] at d77
      rw [d77]
      exact Gv.run (.string ⟨F.toArray⟩) rfl (run_conv rfl rfl (str10 w HF.out g77)) rfl
    refine Obs.cons (fun u w hS hd => ?_) ?_
    · have d72 : u 72 = .bool false := dep hd 2 rfl
      rw [d72]
      have d74 : u 74 = .string ⟨F.toArray⟩ := dep hd 4 rfl
      rw [d74]
      have d78 : u 78 = .string ⟨F.toArray⟩ := dep hd 8 rfl
      rw [d78]
      exact Gv.run (.bool false) rfl (by go_simp) rfl
    exact Obs.nil
  intro u wz hS hd
  have d72 : u 72 = .bool false := hd 2 (by decide)
  rw [d72]
  have d79 : u 79 = .bool false := hd 9 (by decide)
  rw [d79]
  clear hd d72 d79
  simp only [List.drop_succ_cons, List.drop_zero]
  obtain ⟨y4, ey⟩ : ∃ v, v = wz := ⟨_, rfl⟩
  rw [← ey] at hS ⊢
  clear ey
  replace ob := OwnF.keep ob hS
  replace r0 := (r0.keep hS).mono hS.size
  replace q0 := (q0.keep hS).mono hS.size
  replace p0 := (p0.keep hS).mono hS.size
  replace g5 := (g5.keep hS).mono hS.size
  replace hc := hc.trans (hS.mono hc.size)
  clear hS
  have kk0 : y4.cell? ⟨gk, 0, none⟩ = some (.slice A0 key.length c0) := OwnF.cell ob (k := 0) (by decide)
  have kk1 : y4.cell? ⟨gk, 1, none⟩ = some (.slice A1 nonce.length c1) := OwnF.cell ob (k := 1) (by decide)
  have kk2 : y4.cell? ⟨gk, 2, none⟩ = some (.int .u32 (ctr : Int)) := OwnF.cell ob (k := 2) (by decide)
  have kk3 : y4.cell? ⟨gk, 3, none⟩ = some (.slice A2 b.length c2) := OwnF.cell ob (k := 3) (by decide)
  have HB := Lib.hid (fun wz (hz : Below y4.heap.size y4 wz) => show wz.cell? ⟨gk, 0, none⟩ = some (.slice A0 key.length c0) ∧ wz.cell? ⟨gk, 1, none⟩ = some (.slice A1 nonce.length c1) ∧ wz.cell? ⟨gk, 2, none⟩ = some (.int .u32 (ctr : Int)) ∧ wz.cell? ⟨gk, 3, none⟩ = some (.slice A2 b.length c2) from
    ⟨OwnF.cell (OwnF.keep ob hz) (k := 0) (by decide), OwnF.cell (OwnF.keep ob hz) (k := 1) (by decide), OwnF.cell (OwnF.keep ob hz) (k := 2) (by decide), OwnF.cell (OwnF.keep ob hz) (k := 3) (by decide)⟩)
  have g9 := HR9.out
  have g10 := HR8.out
  have g11 := HEND.out
  go_upto_region 15 with fail
  clear kk0 kk1 kk2 kk3 g9 g10 g11
  refine wp_region_inv 22 [92, 93, 94, 95, 96, 97, 98, 99, 100, 101, 102, 103, 104, 105, 106, 107, 108, 109, 91, 110, 111, 10] [.val (.pointer (some ⟨gk, 0, none⟩)), .byt key, .byt key, .val (.pointer (some ⟨gk, 1, none⟩)), .byt nonce, .byt nonce, .val (.pointer (some ⟨gk, 2, none⟩)), .val (.int .u32 (ctr : Int)), .val (.int .i64 (k1 : Int)), .val (.int .i64 (q1 : Int)), .val (.int .u32 (q1 : Int)), .val (.int .u32 (cq : Int)), .val (.pointer (some ⟨gk, 3, none⟩)), .byt b, .val (.int .i64 (k1 : Int)), .byt T1, .byt T1, .sat (tupN G n1 0) tupN_keep, .sat (tupN G n1 0) tupN_keep, .byt G, .val (.int .i64 0), .byt G] (fun wz => Below y4.heap.size y4 wz) (by kernel_rfl) (by kernel_rfl) (fun wz wz' hz hb => hz.trans (hb.mono hz.size)) ((Below.refl _ _).drew) (fun u => by simp only [puts, List.foldl_cons, List.foldl_nil]; go_simp; exact rfl) ?_ ?_
  · simp only [List.take_succ_cons, List.take_zero]
    refine Obs.cons (fun u w hS hd => ?_) ?_
    · exact Gv.run (.pointer (some ⟨gk, 0, none⟩)) rfl (by go_simp) rfl
    refine Obs.cons (fun u w hS hd => ?_) ?_
    · have d92 : u 92 = .pointer (some ⟨gk, 0, none⟩) := dep hd 0 rfl
      rw [d92]
      obtain ⟨k0, k1, k2, k3⟩ := HB.out w hS
      exact Gv.run (.slice A0 key.length c0) rfl (by go_simp) ⟨_, _, rfl, (r0.keep hS).mono hS.size⟩
    refine Obs.cons (fun u w hS hd => ?_) ?_
    · obtain ⟨A93, c93, d93, g93⟩ : (Know.byt key).ok (u 93) w := dep hd 1 rfl
      rw [d93]
      refine Gv.call 11 #[.slice A93 key.length c93] rfl (by go_simp) ((own10_rd key _ _ w HL.out g93).mono ?_)
      rintro e w' ⟨A, c, rfl, R, hb⟩
      exact ⟨_, rfl, ⟨A, c, rfl, R⟩, hb⟩
    refine Obs.cons (fun u w hS hd => ?_) ?_
    · exact Gv.run (.pointer (some ⟨gk, 1, none⟩)) rfl (by go_simp) rfl
    refine Obs.cons (fun u w hS hd => ?_) ?_
    · have d95 : u 95 = .pointer (some ⟨gk, 1, none⟩) := dep hd 3 rfl
      rw [d95]
      obtain ⟨k0, k1, k2, k3⟩ := HB.out w hS
      exact Gv.run (.slice A1 nonce.length c1) rfl (by go_simp) ⟨_, _, rfl, (q0.keep hS).mono hS.size⟩
    refine Obs.cons (fun u w hS hd => ?_) ?_
    · obtain ⟨A96, c96, d96, g96⟩ : (Know.byt nonce).ok (u 96) w := dep hd 4 rfl
      rw [d96]
      refine Gv.call 11 #[.slice A96 nonce.length c96] rfl (by go_simp) ((own10_rd nonce _ _ w HM.out g96).mono ?_)
      rintro e w' ⟨A, c, rfl, R, hb⟩
      exact ⟨_, rfl, ⟨A, c, rfl, R⟩, hb⟩
    refine Obs.cons (fun u w hS hd => ?_) ?_
    · exact Gv.run (.pointer (some ⟨gk, 2, none⟩)) rfl (by go_simp) rfl
    refine Obs.cons (fun u w hS hd => ?_) ?_
    · have d98 : u 98 = .pointer (some ⟨gk, 2, none⟩) := dep hd 6 rfl
      rw [d98]
      obtain ⟨k0, k1, k2, k3⟩ := HB.out w hS
      exact Gv.run (.int .u32 (ctr : Int)) rfl (by go_simp) rfl
    refine Obs.cons (fun u w hS hd => ?_) ?_
    · exact Gv.run (.int .i64 (k1 : Int)) rfl (by go_simp) rfl
    refine Obs.cons (fun u w hS hd => ?_) ?_
    · have d100 : u 100 = .int .i64 (k1 : Int) := dep hd 8 rfl
      rw [d100]
      have hq := HQ1.out
      have hq2 := HQ0.out
      exact Gv.run (.int .i64 (q1 : Int)) rfl (by go_simp) rfl
    refine Obs.cons (fun u w hS hd => ?_) ?_
    · have d101 : u 101 = .int .i64 (q1 : Int) := dep hd 9 rfl
      rw [d101]
      have hq := HQ2.out
      exact Gv.run (.int .u32 (q1 : Int)) rfl (by go_simp) rfl
    refine Obs.cons (fun u w hS hd => ?_) ?_
    · have d99 : u 99 = .int .u32 (ctr : Int) := dep hd 7 rfl
      rw [d99]
      have d102 : u 102 = .int .u32 (q1 : Int) := dep hd 10 rfl
      rw [d102]
      have hq := HQ3.out
      exact Gv.run (.int .u32 (cq : Int)) rfl (by go_simp) rfl
    refine Obs.cons (fun u w hS hd => ?_) ?_
    · exact Gv.run (.pointer (some ⟨gk, 3, none⟩)) rfl (by go_simp) rfl
    refine Obs.cons (fun u w hS hd => ?_) ?_
    · have d104 : u 104 = .pointer (some ⟨gk, 3, none⟩) := dep hd 12 rfl
      rw [d104]
      obtain ⟨k0, k1, k2, k3⟩ := HB.out w hS
      exact Gv.run (.slice A2 b.length c2) rfl (by go_simp) ⟨_, _, rfl, (p0.keep hS).mono hS.size⟩
    refine Obs.cons (fun u w hS hd => ?_) ?_
    · exact Gv.run (.int .i64 (k1 : Int)) rfl (by go_simp) rfl
    refine Obs.cons (fun u w hS hd => ?_) ?_
    · obtain ⟨A105, c105, d105, g105⟩ : (Know.byt b).ok (u 105) w := dep hd 13 rfl
      rw [d105]
      have d106 : u 106 = .int .i64 (k1 : Int) := dep hd 14 rfl
      rw [d106]
      have h107 := g105.drop_ (l := k1) HK1.out
      rw [HT1E.out] at h107
      exact Gv.run (.slice (subA A105 c105 k1) n1 (c105 - k1)) rfl ((slice_op_lo (l := k1) rfl rfl rfl HK1.out).trans (by rw [HN1.out])) ⟨_, _, by rw [HT1.out], h107⟩
    refine Obs.cons (fun u w hS hd => ?_) ?_
    · obtain ⟨A107, c107, d107, g107⟩ : (Know.byt T1).ok (u 107) w := dep hd 15 rfl
      rw [HT1.out] at d107
      rw [d107]
      refine Gv.call 11 #[.slice A107 n1 c107] rfl (by go_simp) ((own10_n HT1.out HN4.out _ _ w g107).mono ?_)
      rintro e w' ⟨A, c, rfl, R, hb⟩
      exact ⟨_, rfl, ⟨A, c, by rw [HT1.out], R⟩, hb⟩
    refine Obs.cons (fun u w hS hd => ?_) ?_
    · obtain ⟨A94, c94, d94, g94⟩ : (Know.byt key).ok (u 94) w := dep hd 2 rfl
      rw [d94]
      obtain ⟨A97, c97, d97, g97⟩ : (Know.byt nonce).ok (u 97) w := dep hd 5 rfl
      rw [d97]
      have d103 : u 103 = .int .u32 (cq : Int) := dep hd 11 rfl
      rw [d103]
      obtain ⟨A108, c108, d108, g108⟩ : (Know.byt T1).ok (u 108) w := dep hd 16 rfl
      rw [HT1.out] at d108
      rw [d108]
      refine Gv.call 14 #[.slice A94 key.length c94, .slice A97 nonce.length c97, .int .u32 (cq : Int), .slice A108 n1 c108] rfl (by go_simp) ((KB.out _ _ _ _ _ _ w g94 g97 g108).mono ?_)
      rintro e w' ⟨A, c, rfl, R, hb⟩
      exact ⟨_, rfl, ⟨A, c, rfl, R⟩, hb⟩
    refine Obs.cons (fun u w hS hd => ?_) ?_
    · obtain ⟨A, c, d109, g109⟩ : (Know.sat (tupN G n1 0) tupN_keep).ok (u 109) w := dep hd 17 rfl
      rw [d109]
      exact Gv.run (.tuple #[.slice A n1 c, .int .i64 0]) rfl (by go_simp) ⟨_, _, rfl, g109⟩
    refine Obs.cons (fun u w hS hd => ?_) ?_
    · obtain ⟨A, c, d91, g91⟩ : (Know.sat (tupN G n1 0) tupN_keep).ok (u 91) w := dep hd 18 rfl
      rw [d91]
      exact Gv.run (.slice A n1 c) rfl (by go_simp) ⟨_, _, by rw [HG1.out], g91⟩
    refine Obs.cons (fun u w hS hd => ?_) ?_
    · obtain ⟨A, c, d91, g91⟩ : (Know.sat (tupN G n1 0) tupN_keep).ok (u 91) w := dep hd 18 rfl
      rw [d91]
      exact Gv.run (.int .i64 0) rfl (by go_simp) rfl
    refine Obs.cons (fun u w hS hd => ?_) ?_
    · obtain ⟨A110, c110, d110, g110⟩ : (Know.byt G).ok (u 110) w := dep hd 19 rfl
      rw [HG1.out] at d110
      rw [d110]
      exact Gv.run (.slice A110 n1 c110) rfl (by go_simp) ⟨_, _, by rw [HG1.out], g110⟩
    exact Obs.nil
  intro u wz hS hd
  obtain ⟨A10, c10, d10, g10⟩ : (Know.byt G).ok (u 10) wz := hd 21 (by decide)
  rw [HG1.out] at d10
  rw [d10]
  have d111 : u 111 = .int .i64 0 := hd 20 (by decide)
  rw [d111]
  clear hd d10 d111
  simp only [List.drop_succ_cons, List.drop_zero]
  clear HB KB
  obtain ⟨y5, ey⟩ : ∃ v, v = wz := ⟨_, rfl⟩
  rw [← ey] at g10 hS ⊢
  clear ey
  replace ob := OwnF.keep ob hS
  replace r0 := (r0.keep hS).mono hS.size
  replace q0 := (q0.keep hS).mono hS.size
  replace p0 := (p0.keep hS).mono hS.size
  replace g5 := (g5.keep hS).mono hS.size
  replace hc := hc.trans (hS.mono hc.size)
  clear hS
  go_upto_region 16 with fail
  refine wp_region_inv 13 [112, 113, 114, 115, 116, 117, 118, 119, 120, 121, 122, 123, 124] [.val (.int .i64 0), .val (.bool true), .val (.bool true), .byt G, .val (.string ⟨G.toArray⟩), .byt L, .val (.int .i64 (k1 : Int)), .byt G, .val (.string ⟨G.toArray⟩), .val (.bool true), .val (.bool true), .val (.bool true), .val (.bool true)] (fun wz => Below y5.heap.size y5 wz) (by kernel_rfl) (by kernel_rfl) (fun wz wz' hz hb => hz.trans (hb.mono hz.size)) ((Below.refl _ _).drew) (fun u => by simp only [puts, List.foldl_cons, List.foldl_nil]; go_simp; exact rfl) ?_ ?_
  · simp only [List.take_succ_cons, List.take_zero]
    refine Obs.cons (fun u w hS hd => ?_) ?_
    · exact Gv.run (.int .i64 0) rfl (by go_simp) rfl
    refine Obs.cons (fun u w hS hd => ?_) ?_
    · have d112 : u 112 = .int .i64 0 := dep hd 0 rfl
      rw [d112]
      exact Gv.run (.bool true) rfl (by go_simp) rfl
    refine Obs.cons (fun u w hS hd => ?_) ?_
    · have d113 : u 113 = .bool true := dep hd 1 rfl
      rw [d113]
      exact Gv.run (.bool true) rfl (by go_simp) rfl
    refine Obs.cons (fun u w hS hd => ?_) ?_
    · have d114 : u 114 = .bool true := dep hd 2 rfl
      rw [d114]
      exact Gv.run (.slice A10 n1 c10) rfl (by go_simp) (⟨_, _, by rw [HG1.out], (g10.keep hS).mono hS.size⟩)
    refine Obs.cons (fun u w hS hd => ?_) ?_
    · have d114 : u 114 = .bool true := dep hd 2 rfl
      rw [d114]
      obtain ⟨A115, c115, d115, g115⟩ : (Know.byt G).ok (u 115) w := dep hd 3 rfl
      rw [HG1.out] at d115
      rw [d115]
      exact Gv.run (.string ⟨G.toArray⟩) rfl (run_conv rfl rfl (str10 w HG1.out g115)) rfl
    refine Obs.cons (fun u w hS hd => ?_) ?_
    · have d114 : u 114 = .bool true := dep hd 2 rfl
      rw [d114]
      exact Gv.run (.slice A5 L.length c5) rfl (by go_simp) (⟨_, _, rfl, (g5.keep hS).mono hS.size⟩)
    refine Obs.cons (fun u w hS hd => ?_) ?_
    · have d114 : u 114 = .bool true := dep hd 2 rfl
      rw [d114]
      exact Gv.run (.int .i64 (k1 : Int)) rfl (by go_simp) rfl
    refine Obs.cons (fun u w hS hd => ?_) ?_
    · have d114 : u 114 = .bool true := dep hd 2 rfl
      rw [d114]
      obtain ⟨A117, c117, d117, g117⟩ : (Know.byt L).ok (u 117) w := dep hd 5 rfl
      rw [d117]
      have d118 : u 118 = .int .i64 (k1 : Int) := dep hd 6 rfl
      rw [d118]
      have h119 := g117.drop_ (l := k1) HK1L.out
      rw [HG1E.out] at h119
      exact Gv.run (.slice (subA A117 c117 k1) n1 (c117 - k1)) (by rfl) ((slice_op_lo (l := k1) rfl rfl rfl HK1L.out).trans (by rw [HN1L.out])) ⟨_, _, by rw [HG1.out], h119⟩
    refine Obs.cons (fun u w hS hd => ?_) ?_
    · have d114 : u 114 = .bool true := dep hd 2 rfl
      rw [d114]
      obtain ⟨A119, c119, d119, g119⟩ : (Know.byt G).ok (u 119) w := dep hd 7 rfl
      rw [HG1.out] at d119
      rw [d119]
      exact Gv.run (.string ⟨G.toArray⟩) rfl (run_conv rfl rfl (str10 w HG1.out g119)) rfl
    refine Obs.cons (fun u w hS hd => ?_) ?_
    · have d114 : u 114 = .bool true := dep hd 2 rfl
      rw [d114]
      have d116 : u 116 = .string ⟨G.toArray⟩ := dep hd 4 rfl
      rw [d116]
      have d120 : u 120 = .string ⟨G.toArray⟩ := dep hd 8 rfl
      rw [d120]
      exact Gv.run (.bool true) rfl (by go_simp) rfl
    refine Obs.cons (fun u w hS hd => ?_) ?_
    · have d114 : u 114 = .bool true := dep hd 2 rfl
      rw [d114]
      have d121 : u 121 = .bool true := dep hd 9 rfl
      rw [d121]
      exact Gv.run (.bool true) rfl (by go_simp) rfl
    refine Obs.cons (fun u w hS hd => ?_) ?_
    · have d122 : u 122 = .bool true := dep hd 10 rfl
      rw [d122]
      exact Gv.run (.bool true) rfl (by go_simp) rfl
    refine Obs.cons (fun u w hS hd => ?_) ?_
    · have d123 : u 123 = .bool true := dep hd 11 rfl
      rw [d123]
      refine Gv.call 10 #[] rfl (by go_simp) ((awake10 w).mono ?_)
      rintro e w' ⟨rfl, hb⟩
      exact ⟨_, rfl, rfl, hb⟩
    exact Obs.nil
  intro u wz hS hd
  have d123 : u 123 = .bool true := hd 11 (by decide)
  rw [d123]
  have d124 : u 124 = .bool true := hd 12 (by decide)
  rw [d124]
  clear hd d123 d124
  simp only [List.drop_succ_cons, List.drop_zero]
  have hfin := hc.trans (hS.mono hc.size)
  go_wp2_with fail
  go_ret
  exact ⟨rfl, hfin⟩
end Go.Proofs.Ythbogplajbldaaa
