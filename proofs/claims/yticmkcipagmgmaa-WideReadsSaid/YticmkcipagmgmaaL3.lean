import Derived.Test.YticmkcipagmgmaaL6
import Derived.Test.YticmkcipagmgmaaL8
import Derived.Test.YticmkcipagmgmaaL4
namespace Go.Proofs.Yticmkcipagmgmaa
open Go Go.RowKit
theorem vb_lt32 {bs : List UInt8} (h : bs.length ≤ 32) : vb bs < W4 := by
  rw [W4_256]; exact Nat.lt_of_lt_of_le (vk_lt bs _) (Nat.pow_le_pow_right (by decide) h)
theorem vb_lt64 {bs : List UInt8} (h : bs.length ≤ 64) : vb bs < W8 := by
  rw [W8_256]; exact Nat.lt_of_lt_of_le (vk_lt bs _) (Nat.pow_le_pow_right (by decide) h)
theorem eq8z (w : World) : (Op.equalIn 10000 29 (dv 0) (.agg #[.int .u64 0, .int .u64 0, .int .u64 0, .int .u64 0, .int .u64 0, .int .u64 0, .int .u64 0, .int .u64 0])).run Try.prog w = .ok true w := by
  rw [← dv_zero]
  exact eq8_self (by decide +kernel) w
theorem eq4zz (w : World) : (Op.equalIn 10000 25 (nv 0) (.agg #[.int .u64 0, .int .u64 0, .int .u64 0, .int .u64 0])).run Try.prog w = .ok true w := by
  have h := eq4z 0 W4_pos w
  rw [decide_eq_true rfl] at h
  exact h
attribute [local irreducible] wd by8 vk
set_option maxRecDepth 20000 in
set_option maxHeartbeats 3200000 in
theorem reads_long (w : World) {B c : Nat} {A : Option Addr} {bs : List UInt8} (hr : Rd w B A c bs) (hB : B ≤ w.heap.size) (hl : bs.length ≤ 140737488355328) (hlen : 64 < bs.length) :
    Calls Try.prog 3 #[.slice A bs.length c] w fun e w' => e = .returned (.bool true) ∧ Below w.heap.size w w' := by
  obtain ⟨i0, hi, hz0, hz1, hz2⟩ := info_parts infoByte
  have h2 : Rd (w.alloc (.cells #[] 5)) B A c bs := hr.keep ((Below.refl B w).alloc hB _)
  have h3 : Own (w.alloc (.cells #[] 5)) w.heap.size 5 (some ⟨w.heap.size, 0, none⟩) 0 [] := World.ownsRow_made w #[] 0 (Nat.le_refl _) (by decide) (by decide)
  have h4 : Below w.heap.size w (w.alloc (.cells #[] 5)) := (Below.refl _ w).alloc (Nat.le_refl _) _
  have q4 := eq4zz
  have q8 := eq8z
  have hv8 : bs.length ≤ 64 → vb bs < W8 := vb_lt64
  have hv4 : bs.length ≤ 32 → vb bs < W4 := vb_lt32
  unfold nv at q4
  unfold dv at q8
  have Q4 := Lib.hid q4
  have Q8 := Lib.hid q8
  clear q4 q8
  have g1 : (64 : Int) < (bs.length : Int) := by omega
  clear hv8 hv4
  go_enter Try.func3, Try.ntmps3
  go_wp2_with (at_builtin; refine wpList_app _ rfl (.tmp 8) (.tmp 9) _ rfl w.heap.size 5 i0 _ Try.underlying22 hi hz0 hz1 hz2 rfl (xs := []) rfl h3 rfl h2 (by simpa using hl) (by simp) ?_; intro A' c' w' ho hb)
  replace ho : Own w' w.heap.size 5 A' c' bs := ho
  have hbw := h4.trans hb
  have ro := ho.rd
  have rb : Rd w' w'.heap.size A c bs := (hr.keep (hbw.mono hB)).mono (Nat.le_trans hB hbw.size)
  clear h2 h3 h4 hb ho hr
  go_at_call 12
  refine (from_bad _ (by omega)).mono ?_
  rintro e w3 ⟨rfl, h1⟩
  have rn := (own_A4 (w := w3) (Nat.le_refl _) (0)).rd
  replace hbw := (hbw.trans (h1.mono hbw.size)).alloc (Nat.le_trans hbw.size h1.size) (A4 (0))
  replace ro := ((ro.keep h1).mono h1.size).keep ((Below.refl w3.heap.size w3).alloc (Nat.le_refl _) (A4 (0)))
  replace ro := ro.mono (B' := (w3.alloc (A4 (0))).heap.size) (by simp)
  replace rb := ((rb.keep h1).mono h1.size).keep ((Below.refl w3.heap.size w3).alloc (Nat.le_refl _) (A4 (0)))
  replace rb := rb.mono (B' := (w3.alloc (A4 (0))).heap.size) (by simp)
  clear h1
  go_wp2_with fail
  go_at_call 13
  refine (double_bad _ (by omega)).mono ?_
  rintro e w4 ⟨rfl, h1⟩
  have rd := (own_A8 (w := w4) (Nat.le_refl _) (0)).rd
  replace hbw := (hbw.trans (h1.mono hbw.size)).alloc (Nat.le_trans hbw.size h1.size) (A8 (0))
  replace rn := (rn.next h1).alloc (A8 (0))
  replace ro := ((ro.keep h1).mono h1.size).keep ((Below.refl w4.heap.size w4).alloc (Nat.le_refl _) (A8 (0)))
  replace ro := ro.mono (B' := (w4.alloc (A8 (0))).heap.size) (by simp)
  replace rb := ((rb.keep h1).mono h1.size).keep ((Below.refl w4.heap.size w4).alloc (Nat.le_refl _) (A8 (0)))
  replace rb := rb.mono (B' := (w4.alloc (A8 (0))).heap.size) (by simp)
  clear h1
  have so := run_str (P := Try.prog) _ 22 5 Try.underlying22 Try.underlying5 (dst := 9) Try.underlying9 ro
  have sb := run_str (P := Try.prog) _ 22 5 Try.underlying22 Try.underlying5 (dst := 9) Try.underlying9 rb
  obtain ⟨n0, n1, n2, n3⟩ := rn.c4
  obtain ⟨d0, d1, d2, d3, d4, d5, d6, d7⟩ := rd.c8
  go_wp2_with (first | ((with_reducible refine gate_list .eql 25 ?_); refine wpList_eqlA 25 _ _ _ rfl rfl rfl rfl (guard4 _ _ _ _ _) (by first | with_reducible exact Q4.out _ | with_reducible exact Q8.out _) ?_) | ((with_reducible refine gate_listG .eql 25 ?_); refine wpList_eqlG 25 _ _ _ rfl rfl rfl rfl (guard4 _ _ _ _ _) (by first | with_reducible exact Q4.out _ | with_reducible exact Q8.out _) ?_) | ((with_reducible refine gate_wp .eql 25 ?_); refine wp_eqlA 25 _ _ _ rfl rfl rfl (guard4 _ _ _ _ _) (by first | with_reducible exact Q4.out _ | with_reducible exact Q8.out _) ?_) | ((with_reducible refine gate_list .eql 29 ?_); refine wpList_eqlA 29 _ _ _ rfl rfl rfl rfl (guard8 _ _ _ _ _) (by first | with_reducible exact Q4.out _ | with_reducible exact Q8.out _) ?_) | ((with_reducible refine gate_listG .eql 29 ?_); refine wpList_eqlG 29 _ _ _ rfl rfl rfl rfl (guard8 _ _ _ _ _) (by first | with_reducible exact Q4.out _ | with_reducible exact Q8.out _) ?_) | ((with_reducible refine gate_wp .eql 29 ?_); refine wp_eqlA 29 _ _ _ rfl rfl rfl (guard8 _ _ _ _ _) (by first | with_reducible exact Q4.out _ | with_reducible exact Q8.out _) ?_))
  go_at_call 14
  refine (awake_any _).mono ?_
  rintro e w5 ⟨rfl, h1⟩
  replace hbw := hbw.trans (h1.mono hbw.size)
  go_wp2_with fail
  go_ret
  exact ⟨rfl, hbw⟩
set_option maxRecDepth 20000 in
set_option maxHeartbeats 3200000 in
theorem reads_mid (w : World) {B c : Nat} {A : Option Addr} {bs : List UInt8} (hr : Rd w B A c bs) (hB : B ≤ w.heap.size) (hl : bs.length ≤ 140737488355328) (h33 : 32 < bs.length) (h64 : bs.length ≤ 64) :
    Calls Try.prog 3 #[.slice A bs.length c] w fun e w' => e = .returned (.bool true) ∧ Below w.heap.size w w' := by
  obtain ⟨i0, hi, hz0, hz1, hz2⟩ := info_parts infoByte
  have h2 : Rd (w.alloc (.cells #[] 5)) B A c bs := hr.keep ((Below.refl B w).alloc hB _)
  have h3 : Own (w.alloc (.cells #[] 5)) w.heap.size 5 (some ⟨w.heap.size, 0, none⟩) 0 [] := World.ownsRow_made w #[] 0 (Nat.le_refl _) (by decide) (by decide)
  have h4 : Below w.heap.size w (w.alloc (.cells #[] 5)) := (Below.refl _ w).alloc (Nat.le_refl _) _
  have q4 := eq4zz
  have q8 := eq8z
  have hv8 : bs.length ≤ 64 → vb bs < W8 := vb_lt64
  have hv4 : bs.length ≤ 32 → vb bs < W4 := vb_lt32
  have qd := eq8_self (hv8 (by omega))
  unfold dv at qd
  unfold nv at q4
  unfold dv at q8
  have Q4 := Lib.hid q4
  have Q8 := Lib.hid q8
  clear q4 q8
  have QD := Lib.hid qd
  clear qd
  have g1 : ¬ (64 : Int) < (bs.length : Int) := by omega
  have g2 : (32 : Int) < (bs.length : Int) := by omega
  clear hv8 hv4
  go_enter Try.func3, Try.ntmps3
  go_wp2_with (at_builtin; refine wpList_app _ rfl (.tmp 8) (.tmp 9) _ rfl w.heap.size 5 i0 _ Try.underlying22 hi hz0 hz1 hz2 rfl (xs := []) rfl h3 rfl h2 (by simpa using hl) (by simp) ?_; intro A' c' w' ho hb)
  replace ho : Own w' w.heap.size 5 A' c' bs := ho
  have hbw := h4.trans hb
  have ro := ho.rd
  have rb : Rd w' w'.heap.size A c bs := (hr.keep (hbw.mono hB)).mono (Nat.le_trans hB hbw.size)
  clear h2 h3 h4 hb ho hr
  go_at_call 12
  refine (from_bad _ (by omega)).mono ?_
  rintro e w3 ⟨rfl, h1⟩
  have rn := (own_A4 (w := w3) (Nat.le_refl _) (0)).rd
  replace hbw := (hbw.trans (h1.mono hbw.size)).alloc (Nat.le_trans hbw.size h1.size) (A4 (0))
  replace ro := ((ro.keep h1).mono h1.size).keep ((Below.refl w3.heap.size w3).alloc (Nat.le_refl _) (A4 (0)))
  replace ro := ro.mono (B' := (w3.alloc (A4 (0))).heap.size) (by simp)
  replace rb := ((rb.keep h1).mono h1.size).keep ((Below.refl w3.heap.size w3).alloc (Nat.le_refl _) (A4 (0)))
  replace rb := rb.mono (B' := (w3.alloc (A4 (0))).heap.size) (by simp)
  clear h1
  go_wp2_with fail
  go_at_call 13
  refine (double_good _ ro (Nat.le_refl _) (by omega)).mono ?_
  rintro e w4 ⟨rfl, h1⟩
  have rd := (own_A8 (w := w4) (Nat.le_refl _) (vb bs)).rd
  replace hbw := (hbw.trans (h1.mono hbw.size)).alloc (Nat.le_trans hbw.size h1.size) (A8 (vb bs))
  replace rn := (rn.next h1).alloc (A8 (vb bs))
  replace ro := ((ro.keep h1).mono h1.size).keep ((Below.refl w4.heap.size w4).alloc (Nat.le_refl _) (A8 (vb bs)))
  replace ro := ro.mono (B' := (w4.alloc (A8 (vb bs))).heap.size) (by simp)
  replace rb := ((rb.keep h1).mono h1.size).keep ((Below.refl w4.heap.size w4).alloc (Nat.le_refl _) (A8 (vb bs)))
  replace rb := rb.mono (B' := (w4.alloc (A8 (vb bs))).heap.size) (by simp)
  clear h1
  have so := run_str (P := Try.prog) _ 22 5 Try.underlying22 Try.underlying5 (dst := 9) Try.underlying9 ro
  have sb := run_str (P := Try.prog) _ 22 5 Try.underlying22 Try.underlying5 (dst := 9) Try.underlying9 rb
  obtain ⟨n0, n1, n2, n3⟩ := rn.c4
  obtain ⟨d0, d1, d2, d3, d4, d5, d6, d7⟩ := rd.c8
  go_wp2_with fail
  clear so sb n0 n1 n2 n3 d0 d1 d2 d3 d4 d5 d6 d7 ro
  obtain ⟨v, ev⟩ : ∃ v, v = w4.alloc (A8 (vb bs)) := ⟨_, rfl⟩
  rw [← ev] at rn rd rb hbw ⊢
  clear ev
  have HS : ∀ wz, Below v.heap.size v wz → wz.cell? ⟨w3.heap.size, 0, none⟩ = some (.int .u64 (wd (0) 0 : Int)) ∧ wz.cell? ⟨w3.heap.size, 1, none⟩ = some (.int .u64 (wd (0) 1 : Int)) ∧ wz.cell? ⟨w3.heap.size, 2, none⟩ = some (.int .u64 (wd (0) 2 : Int)) ∧ wz.cell? ⟨w3.heap.size, 3, none⟩ = some (.int .u64 (wd (0) 3 : Int)) ∧ wz.cell? ⟨w4.heap.size, 0, none⟩ = some (.int .u64 (wd (vb bs) 0 : Int)) ∧ wz.cell? ⟨w4.heap.size, 1, none⟩ = some (.int .u64 (wd (vb bs) 1 : Int)) ∧ wz.cell? ⟨w4.heap.size, 2, none⟩ = some (.int .u64 (wd (vb bs) 2 : Int)) ∧ wz.cell? ⟨w4.heap.size, 3, none⟩ = some (.int .u64 (wd (vb bs) 3 : Int)) ∧ wz.cell? ⟨w4.heap.size, 4, none⟩ = some (.int .u64 (wd (vb bs) 4 : Int)) ∧ wz.cell? ⟨w4.heap.size, 5, none⟩ = some (.int .u64 (wd (vb bs) 5 : Int)) ∧ wz.cell? ⟨w4.heap.size, 6, none⟩ = some (.int .u64 (wd (vb bs) 6 : Int)) ∧ wz.cell? ⟨w4.heap.size, 7, none⟩ = some (.int .u64 (wd (vb bs) 7 : Int)) := fun wz hz => by
    obtain ⟨n0, n1, n2, n3⟩ := (rn.keep hz).c4
    obtain ⟨d0, d1, d2, d3, d4, d5, d6, d7⟩ := (rd.keep hz).c8
    exact ⟨n0, n1, n2, n3, d0, d1, d2, d3, d4, d5, d6, d7⟩
  have HS2 := Lib.hid HS
  obtain ⟨n0, n1, n2, n3, d0, d1, d2, d3, d4, d5, d6, d7⟩ := HS v (Below.refl _ _)
  have hc : Below v.heap.size v v.drew := (Below.refl _ v).drew
  have qd := QD.out
  clear HS
  go_region_held3 (fun wz => wz.cell? ⟨w3.heap.size, 0, none⟩ = some (.int .u64 (wd (0) 0 : Int)) ∧ wz.cell? ⟨w3.heap.size, 1, none⟩ = some (.int .u64 (wd (0) 1 : Int)) ∧ wz.cell? ⟨w3.heap.size, 2, none⟩ = some (.int .u64 (wd (0) 2 : Int)) ∧ wz.cell? ⟨w3.heap.size, 3, none⟩ = some (.int .u64 (wd (0) 3 : Int)) ∧ wz.cell? ⟨w4.heap.size, 0, none⟩ = some (.int .u64 (wd (vb bs) 0 : Int)) ∧ wz.cell? ⟨w4.heap.size, 1, none⟩ = some (.int .u64 (wd (vb bs) 1 : Int)) ∧ wz.cell? ⟨w4.heap.size, 2, none⟩ = some (.int .u64 (wd (vb bs) 2 : Int)) ∧ wz.cell? ⟨w4.heap.size, 3, none⟩ = some (.int .u64 (wd (vb bs) 3 : Int)) ∧ wz.cell? ⟨w4.heap.size, 4, none⟩ = some (.int .u64 (wd (vb bs) 4 : Int)) ∧ wz.cell? ⟨w4.heap.size, 5, none⟩ = some (.int .u64 (wd (vb bs) 5 : Int)) ∧ wz.cell? ⟨w4.heap.size, 6, none⟩ = some (.int .u64 (wd (vb bs) 6 : Int)) ∧ wz.cell? ⟨w4.heap.size, 7, none⟩ = some (.int .u64 (wd (vb bs) 7 : Int)))
    (exact HS2.out _ hc)
    (first | (go_at_call 16; (with_reducible refine (read_any _ (rb.keep hc) hc.size (by omega)).mono ?_); rintro e wx ⟨Ax, cx, nx, rfl, dx, h1⟩; have px := dx.dig; replace hc := hc.trans (h1.mono hc.size); clear dx) | (go_at_call 15; (with_reducible refine (rwide_any _ px (Nat.le_refl _)).mono ?_); rintro e ww ⟨rfl, h1⟩; replace hc := hc.trans (h1.mono hc.size)))
  all_goals
    clear px h1 n0 n1 n2 n3 d0 d1 d2 d3 d4 d5 d6 d7 qd
    obtain ⟨n0, n1, n2, n3, d0, d1, d2, d3, d4, d5, d6, d7⟩ := HS2.out _ hc
    go_wp2_with (first | ((with_reducible refine gate_list .eql 25 ?_); refine wpList_eqlA 25 _ _ _ rfl rfl rfl rfl (guard4 _ _ _ _ _) (by first | with_reducible exact Q4.out _) ?_) | ((with_reducible refine gate_listG .eql 25 ?_); refine wpList_eqlG 25 _ _ _ rfl rfl rfl rfl (guard4 _ _ _ _ _) (by first | with_reducible exact Q4.out _) ?_) | ((with_reducible refine gate_wp .eql 25 ?_); refine wp_eqlA 25 _ _ _ rfl rfl rfl (guard4 _ _ _ _ _) (by first | with_reducible exact Q4.out _) ?_))
    go_at_call 14
    refine (awake_any _).mono ?_
    rintro e w5 ⟨rfl, h1⟩
    replace hc := hc.trans (h1.mono hc.size)
    go_wp2_with fail
    go_ret
    exact ⟨rfl, hbw.trans (hc.mono hbw.size)⟩
set_option maxRecDepth 20000 in
set_option maxHeartbeats 3200000 in
theorem reads_short (w : World) {B c : Nat} {A : Option Addr} {bs : List UInt8} (hr : Rd w B A c bs) (hB : B ≤ w.heap.size) (hl : bs.length ≤ 140737488355328) (h32 : bs.length ≤ 32) :
    Calls Try.prog 3 #[.slice A bs.length c] w fun e w' => e = .returned (.bool true) ∧ Below w.heap.size w w' := by
  obtain ⟨i0, hi, hz0, hz1, hz2⟩ := info_parts infoByte
  have h2 : Rd (w.alloc (.cells #[] 5)) B A c bs := hr.keep ((Below.refl B w).alloc hB _)
  have h3 : Own (w.alloc (.cells #[] 5)) w.heap.size 5 (some ⟨w.heap.size, 0, none⟩) 0 [] := World.ownsRow_made w #[] 0 (Nat.le_refl _) (by decide) (by decide)
  have h4 : Below w.heap.size w (w.alloc (.cells #[] 5)) := (Below.refl _ w).alloc (Nat.le_refl _) _
  have q4 := eq4zz
  have q8 := eq8z
  have hv8 : bs.length ≤ 64 → vb bs < W8 := vb_lt64
  have hv4 : bs.length ≤ 32 → vb bs < W4 := vb_lt32
  have qd := eq8_self (hv8 (by omega))
  have qn := eq4_self (vb bs)
  unfold dv at qd
  unfold nv at qn
  unfold nv at q4
  unfold dv at q8
  have Q4 := Lib.hid q4
  have Q8 := Lib.hid q8
  clear q4 q8
  have QD := Lib.hid qd
  clear qd
  have QN := Lib.hid qn
  clear qn
  have g1 : ¬ (64 : Int) < (bs.length : Int) := by omega
  have g2 : ¬ (32 : Int) < (bs.length : Int) := by omega
  clear hv8 hv4
  go_enter Try.func3, Try.ntmps3
  go_wp2_with (at_builtin; refine wpList_app _ rfl (.tmp 8) (.tmp 9) _ rfl w.heap.size 5 i0 _ Try.underlying22 hi hz0 hz1 hz2 rfl (xs := []) rfl h3 rfl h2 (by simpa using hl) (by simp) ?_; intro A' c' w' ho hb)
  replace ho : Own w' w.heap.size 5 A' c' bs := ho
  have hbw := h4.trans hb
  have ro := ho.rd
  have rb : Rd w' w'.heap.size A c bs := (hr.keep (hbw.mono hB)).mono (Nat.le_trans hB hbw.size)
  clear h2 h3 h4 hb ho hr
  go_at_call 12
  refine (from_good _ ro (Nat.le_refl _) (by omega)).mono ?_
  rintro e w3 ⟨rfl, h1⟩
  have rn := (own_A4 (w := w3) (Nat.le_refl _) (vb bs)).rd
  replace hbw := (hbw.trans (h1.mono hbw.size)).alloc (Nat.le_trans hbw.size h1.size) (A4 (vb bs))
  replace ro := ((ro.keep h1).mono h1.size).keep ((Below.refl w3.heap.size w3).alloc (Nat.le_refl _) (A4 (vb bs)))
  replace ro := ro.mono (B' := (w3.alloc (A4 (vb bs))).heap.size) (by simp)
  replace rb := ((rb.keep h1).mono h1.size).keep ((Below.refl w3.heap.size w3).alloc (Nat.le_refl _) (A4 (vb bs)))
  replace rb := rb.mono (B' := (w3.alloc (A4 (vb bs))).heap.size) (by simp)
  clear h1
  go_wp2_with fail
  go_at_call 13
  refine (double_good _ ro (Nat.le_refl _) (by omega)).mono ?_
  rintro e w4 ⟨rfl, h1⟩
  have rd := (own_A8 (w := w4) (Nat.le_refl _) (vb bs)).rd
  replace hbw := (hbw.trans (h1.mono hbw.size)).alloc (Nat.le_trans hbw.size h1.size) (A8 (vb bs))
  replace rn := (rn.next h1).alloc (A8 (vb bs))
  replace ro := ((ro.keep h1).mono h1.size).keep ((Below.refl w4.heap.size w4).alloc (Nat.le_refl _) (A8 (vb bs)))
  replace ro := ro.mono (B' := (w4.alloc (A8 (vb bs))).heap.size) (by simp)
  replace rb := ((rb.keep h1).mono h1.size).keep ((Below.refl w4.heap.size w4).alloc (Nat.le_refl _) (A8 (vb bs)))
  replace rb := rb.mono (B' := (w4.alloc (A8 (vb bs))).heap.size) (by simp)
  clear h1
  have so := run_str (P := Try.prog) _ 22 5 Try.underlying22 Try.underlying5 (dst := 9) Try.underlying9 ro
  have sb := run_str (P := Try.prog) _ 22 5 Try.underlying22 Try.underlying5 (dst := 9) Try.underlying9 rb
  obtain ⟨n0, n1, n2, n3⟩ := rn.c4
  obtain ⟨d0, d1, d2, d3, d4, d5, d6, d7⟩ := rd.c8
  go_wp2_with fail
  clear so sb n0 n1 n2 n3 d0 d1 d2 d3 d4 d5 d6 d7 ro
  obtain ⟨v, ev⟩ : ∃ v, v = w4.alloc (A8 (vb bs)) := ⟨_, rfl⟩
  rw [← ev] at rn rd rb hbw ⊢
  clear ev
  have HS : ∀ wz, Below v.heap.size v wz → wz.cell? ⟨w3.heap.size, 0, none⟩ = some (.int .u64 (wd (vb bs) 0 : Int)) ∧ wz.cell? ⟨w3.heap.size, 1, none⟩ = some (.int .u64 (wd (vb bs) 1 : Int)) ∧ wz.cell? ⟨w3.heap.size, 2, none⟩ = some (.int .u64 (wd (vb bs) 2 : Int)) ∧ wz.cell? ⟨w3.heap.size, 3, none⟩ = some (.int .u64 (wd (vb bs) 3 : Int)) ∧ wz.cell? ⟨w4.heap.size, 0, none⟩ = some (.int .u64 (wd (vb bs) 0 : Int)) ∧ wz.cell? ⟨w4.heap.size, 1, none⟩ = some (.int .u64 (wd (vb bs) 1 : Int)) ∧ wz.cell? ⟨w4.heap.size, 2, none⟩ = some (.int .u64 (wd (vb bs) 2 : Int)) ∧ wz.cell? ⟨w4.heap.size, 3, none⟩ = some (.int .u64 (wd (vb bs) 3 : Int)) ∧ wz.cell? ⟨w4.heap.size, 4, none⟩ = some (.int .u64 (wd (vb bs) 4 : Int)) ∧ wz.cell? ⟨w4.heap.size, 5, none⟩ = some (.int .u64 (wd (vb bs) 5 : Int)) ∧ wz.cell? ⟨w4.heap.size, 6, none⟩ = some (.int .u64 (wd (vb bs) 6 : Int)) ∧ wz.cell? ⟨w4.heap.size, 7, none⟩ = some (.int .u64 (wd (vb bs) 7 : Int)) := fun wz hz => by
    obtain ⟨n0, n1, n2, n3⟩ := (rn.keep hz).c4
    obtain ⟨d0, d1, d2, d3, d4, d5, d6, d7⟩ := (rd.keep hz).c8
    exact ⟨n0, n1, n2, n3, d0, d1, d2, d3, d4, d5, d6, d7⟩
  have HS2 := Lib.hid HS
  obtain ⟨n0, n1, n2, n3, d0, d1, d2, d3, d4, d5, d6, d7⟩ := HS v (Below.refl _ _)
  have hc : Below v.heap.size v v.drew := (Below.refl _ v).drew
  have qd := QD.out
  clear HS
  go_region_held3 (fun wz => wz.cell? ⟨w3.heap.size, 0, none⟩ = some (.int .u64 (wd (vb bs) 0 : Int)) ∧ wz.cell? ⟨w3.heap.size, 1, none⟩ = some (.int .u64 (wd (vb bs) 1 : Int)) ∧ wz.cell? ⟨w3.heap.size, 2, none⟩ = some (.int .u64 (wd (vb bs) 2 : Int)) ∧ wz.cell? ⟨w3.heap.size, 3, none⟩ = some (.int .u64 (wd (vb bs) 3 : Int)) ∧ wz.cell? ⟨w4.heap.size, 0, none⟩ = some (.int .u64 (wd (vb bs) 0 : Int)) ∧ wz.cell? ⟨w4.heap.size, 1, none⟩ = some (.int .u64 (wd (vb bs) 1 : Int)) ∧ wz.cell? ⟨w4.heap.size, 2, none⟩ = some (.int .u64 (wd (vb bs) 2 : Int)) ∧ wz.cell? ⟨w4.heap.size, 3, none⟩ = some (.int .u64 (wd (vb bs) 3 : Int)) ∧ wz.cell? ⟨w4.heap.size, 4, none⟩ = some (.int .u64 (wd (vb bs) 4 : Int)) ∧ wz.cell? ⟨w4.heap.size, 5, none⟩ = some (.int .u64 (wd (vb bs) 5 : Int)) ∧ wz.cell? ⟨w4.heap.size, 6, none⟩ = some (.int .u64 (wd (vb bs) 6 : Int)) ∧ wz.cell? ⟨w4.heap.size, 7, none⟩ = some (.int .u64 (wd (vb bs) 7 : Int)))
    (exact HS2.out _ hc)
    (first | (go_at_call 16; (with_reducible refine (read_any _ (rb.keep hc) hc.size (by omega)).mono ?_); rintro e wx ⟨Ax, cx, nx, rfl, dx, h1⟩; have px := dx.dig; replace hc := hc.trans (h1.mono hc.size); clear dx) | (go_at_call 15; (with_reducible refine (rwide_any _ px (Nat.le_refl _)).mono ?_); rintro e ww ⟨rfl, h1⟩; replace hc := hc.trans (h1.mono hc.size)))
  all_goals
    clear px h1 n0 n1 n2 n3 d0 d1 d2 d3 d4 d5 d6 d7 qd
    obtain ⟨n0, n1, n2, n3, d0, d1, d2, d3, d4, d5, d6, d7⟩ := HS2.out _ hc
    go_wp2_with fail
    replace hc := hc.drew
    have qn := QN.out
    go_region_held3 (fun wz => wz.cell? ⟨w3.heap.size, 0, none⟩ = some (.int .u64 (wd (vb bs) 0 : Int)) ∧ wz.cell? ⟨w3.heap.size, 1, none⟩ = some (.int .u64 (wd (vb bs) 1 : Int)) ∧ wz.cell? ⟨w3.heap.size, 2, none⟩ = some (.int .u64 (wd (vb bs) 2 : Int)) ∧ wz.cell? ⟨w3.heap.size, 3, none⟩ = some (.int .u64 (wd (vb bs) 3 : Int)) ∧ wz.cell? ⟨w4.heap.size, 0, none⟩ = some (.int .u64 (wd (vb bs) 0 : Int)) ∧ wz.cell? ⟨w4.heap.size, 1, none⟩ = some (.int .u64 (wd (vb bs) 1 : Int)) ∧ wz.cell? ⟨w4.heap.size, 2, none⟩ = some (.int .u64 (wd (vb bs) 2 : Int)) ∧ wz.cell? ⟨w4.heap.size, 3, none⟩ = some (.int .u64 (wd (vb bs) 3 : Int)) ∧ wz.cell? ⟨w4.heap.size, 4, none⟩ = some (.int .u64 (wd (vb bs) 4 : Int)) ∧ wz.cell? ⟨w4.heap.size, 5, none⟩ = some (.int .u64 (wd (vb bs) 5 : Int)) ∧ wz.cell? ⟨w4.heap.size, 6, none⟩ = some (.int .u64 (wd (vb bs) 6 : Int)) ∧ wz.cell? ⟨w4.heap.size, 7, none⟩ = some (.int .u64 (wd (vb bs) 7 : Int)))
      (exact HS2.out _ hc)
      (first | (go_at_call 16; (with_reducible refine (read_any _ (rb.keep hc) hc.size (by omega)).mono ?_); rintro e wx ⟨Ax, cx, nx, rfl, dx, h1⟩; have px := dx.dig; replace hc := hc.trans (h1.mono hc.size); clear dx) | (go_at_call 17; (with_reducible refine (of_any _ px (Nat.le_refl _)).mono ?_); rintro e ww ⟨rfl, h1⟩; replace hc := hc.trans (h1.mono hc.size)) | (go_at_call 14; (with_reducible refine (awake_any _).mono ?_); rintro e wa ⟨rfl, h1⟩; replace hc := hc.trans (h1.mono hc.size)))
    all_goals
      go_wp2_with fail
      go_ret
      exact ⟨rfl, hbw.trans (hc.mono hbw.size)⟩
theorem reads_walk {w : World} {B c : Nat} {A : Option Addr} {bs : List UInt8} (hr : Rd w B A c bs) (hB : B ≤ w.heap.size) (hl : bs.length ≤ 140737488355328) :
    Calls Try.prog 3 #[.slice A bs.length c] w fun e w' => e = .returned (.bool true) ∧ Below w.heap.size w w' := by
  by_cases h : bs.length ≤ 32
  · exact reads_short w hr hB hl h
  · by_cases h2 : bs.length ≤ 64
    · exact reads_mid w hr hB hl (by omega) h2
    · exact reads_long w hr hB hl (by omega)
theorem reads_law {w : World} {c : Nat} {A : Option Addr} {bs : List UInt8} (hr : Rd w w.heap.size A c bs) (hl : bs.length ≤ 140737488351232) (_ : World) :
    Calls Try.prog 3 #[.slice A bs.length c] w fun e w' => e = .returned (.bool true) ∧ Below w.heap.size w w' := reads_walk hr (Nat.le_refl _) (by omega)
end Go.Proofs.Yticmkcipagmgmaa
