import Derived.Test.YticmkcipagmgmaaEqOp
namespace Go.Proofs.Yticmkcipagmgmaa
open Go Go.RowKit
theorem vb_gen {x : Nat} (hx : x < W4) : vb (gen (bf x) 32) = x := by
  have hl : (gen (bf x) 32).length = 32 := gen_length _ _
  unfold vb
  rw [hl]
  refine dgt_ext (b := 256) (n := 32) (vk_lt _ _) (by rw [← W4_256]; exact hx) fun i hi => ?_
  rw [show dgt 256 (vk (gen (bf x) 32) 32) i = nth (gen (bf x) 32) i from vk_dig _ i 32 hi, nth_gen hi, bf_nat]
  rfl
theorem from_tells {x : Nat} (hx : x < W4) (w : World) {B c : Nat} {A : Option Addr} (hr : Rd w B A c (gen (bf x) 32)) (hB : B ≤ w.heap.size) :
    Calls Try.prog 12 #[.slice A 32 c] w fun e w' => e = .returned (.tuple #[nv x, .int .i64 0]) ∧ Below w.heap.size w w' := by
  have h := from_good w hr hB (by rw [gen_length]; omega)
  rw [gen_length, vb_gen hx] at h
  exact h
theorem str32 (w : World) {B c : Nat} {A : Option Addr} {bs : List UInt8} (hl : bs.length = 32) (hr : Rd w B A c bs) : (convert 22 9 (.slice A 32 c)).run Try.prog w = .ok (.string ⟨bs.toArray⟩) w := by
  have h := run_str (P := Try.prog) w 22 5 Try.underlying22 Try.underlying5 (dst := 9) Try.underlying9 hr
  rw [hl] at h
  exact h
attribute [local irreducible] wd by8
set_option warningAsError false in
set_option maxRecDepth 20000 in
set_option maxHeartbeats 1600000 in
theorem tells_walk {x : Nat} (hx : x < W4) (w : World) :
    Calls Try.prog 4 #[nv x] w fun e w' => e = .returned (.bool true) ∧ Below w.heap.size w w' := by
  have ra := (own_A4 (w := w) (Nat.le_refl _) x).rd
  have hb := (Below.refl _ w).alloc (Nat.le_refl _) (A4 x)
  have qr := eq4_self x
  unfold nv at qr ⊢
  have QR := Lib.hid qr
  clear qr
  go_enter Try.func4, Try.ntmps4
  go_wp2_with fail
  go_at_call 18
  refine (bytes_any x _).mono ?_
  rintro e w3 ⟨Ab, cb, rfl, ob, h1⟩
  have hbw := hb.trans (h1.mono hb.size)
  replace ra := ra.next h1
  have rb := ob.rd
  clear h1 hb ob
  go_wp2_with fail
  go_at_call 12
  refine (from_tells hx _ rb (Nat.le_refl _)).mono ?_
  rintro e w4 ⟨rfl, h1⟩
  have rg := (own_A4 (w := w4) (Nat.le_refl _) x).rd
  replace hbw := (hbw.trans (h1.mono hbw.size)).alloc (Nat.le_trans hbw.size h1.size) (A4 x)
  replace ra := (ra.next h1).alloc (A4 x)
  replace rb := ((rb.keep h1).mono h1.size).keep ((Below.refl w4.heap.size w4).alloc (Nat.le_refl _) (A4 x))
  replace rb := rb.mono (B' := (w4.alloc (A4 x)).heap.size) (by simp)
  clear h1
  go_wp2_with fail
  obtain ⟨w5, e5⟩ : ∃ w5, w5 = w4.alloc (A4 x) := ⟨_, rfl⟩
  rw [← e5] at ra rb rg hbw ⊢
  clear e5
  obtain ⟨bs, hbs⟩ : ∃ bs, bs = gen (bf x) 32 := ⟨_, rfl⟩
  have hlen : bs.length = 32 := by rw [hbs]; exact gen_length _ _
  rw [← hbs] at rb
  have HB := Lib.hid hbs
  have HL := Lib.hid hlen
  clear hbs hlen
  have HS : ∀ wz, Below w5.heap.size w5 wz → wz.cell? ⟨w.heap.size, 0, none⟩ = some (.int .u64 (wd x 0 : Int)) ∧ wz.cell? ⟨w.heap.size, 1, none⟩ = some (.int .u64 (wd x 1 : Int)) ∧ wz.cell? ⟨w.heap.size, 2, none⟩ = some (.int .u64 (wd x 2 : Int)) ∧ wz.cell? ⟨w.heap.size, 3, none⟩ = some (.int .u64 (wd x 3 : Int)) ∧ wz.cell? ⟨w4.heap.size, 0, none⟩ = some (.int .u64 (wd x 0 : Int)) ∧ wz.cell? ⟨w4.heap.size, 1, none⟩ = some (.int .u64 (wd x 1 : Int)) ∧ wz.cell? ⟨w4.heap.size, 2, none⟩ = some (.int .u64 (wd x 2 : Int)) ∧ wz.cell? ⟨w4.heap.size, 3, none⟩ = some (.int .u64 (wd x 3 : Int)) ∧ (convert 22 9 (.slice Ab 32 cb)).run Try.prog wz = .ok (.string ⟨bs.toArray⟩) wz := fun wz hz => by
    obtain ⟨a0, a1, a2, a3⟩ := (ra.keep hz).c4
    obtain ⟨g0, g1, g2, g3⟩ := (rg.keep hz).c4
    exact ⟨a0, a1, a2, a3, g0, g1, g2, g3, str32 wz HL.out (rb.keep hz)⟩
  have HS2 := Lib.hid HS
  obtain ⟨x0, x1, x2, x3, y0, y1, y2, y3, zs⟩ := HS w5 (Below.refl _ _)
  have hq : w5.heap.size ≤ w5.heap.size := Nat.le_refl _
  have hc : Below w5.heap.size w5 w5.drew := (Below.refl _ w5).drew
  have qr := QR.out
  clear HS
  go_region_held3 (fun wz => wz.cell? ⟨w.heap.size, 0, none⟩ = some (.int .u64 (wd x 0 : Int)) ∧ wz.cell? ⟨w.heap.size, 1, none⟩ = some (.int .u64 (wd x 1 : Int)) ∧ wz.cell? ⟨w.heap.size, 2, none⟩ = some (.int .u64 (wd x 2 : Int)) ∧ wz.cell? ⟨w.heap.size, 3, none⟩ = some (.int .u64 (wd x 3 : Int)) ∧ wz.cell? ⟨w4.heap.size, 0, none⟩ = some (.int .u64 (wd x 0 : Int)) ∧ wz.cell? ⟨w4.heap.size, 1, none⟩ = some (.int .u64 (wd x 1 : Int)) ∧ wz.cell? ⟨w4.heap.size, 2, none⟩ = some (.int .u64 (wd x 2 : Int)) ∧ wz.cell? ⟨w4.heap.size, 3, none⟩ = some (.int .u64 (wd x 3 : Int)) ∧ (convert 22 9 (.slice Ab 32 cb)).run Try.prog wz = .ok (.string ⟨bs.toArray⟩) wz)
    (exact HS2.out _ hc)
    (first | (go_at_call 20; (with_reducible refine (digits_any hx _).mono ?_); rintro e wy ⟨Ay, cy, ny, rfl, dy, h9⟩; have py := dy.dig; replace hc := hc.trans (h9.mono (Nat.le_trans hq hc.size)); clear dy) | (go_at_call 19; (with_reducible refine (told_any _ py (Nat.le_refl _)).mono ?_); rintro e wt ⟨At, ct, rfl, ot, h9⟩; rw [← HB.out] at ot; have hst := str32 wt HL.out ot.rd; replace hc := hc.trans (h9.mono (Nat.le_trans hq hc.size)); clear ot py) | (go_at_call 14; (with_reducible refine (awake_any _).mono ?_); rintro e wa ⟨rfl, h9⟩; replace hc := hc.trans (h9.mono (Nat.le_trans hq hc.size))))
  all_goals
    go_wp2_with fail
    go_ret
    exact ⟨rfl, hbw.trans (hc.mono hbw.size)⟩
end Go.Proofs.Yticmkcipagmgmaa
