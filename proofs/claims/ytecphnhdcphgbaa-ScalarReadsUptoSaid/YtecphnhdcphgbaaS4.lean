import Derived.Test.YtecphnhdcphgbaaS3
namespace Go.Proofs.Ytecphnhdcphgbaa
open Go Go.RowKit
/-- The slice at 'A', of 'n' scalars, reads as the numbers 'f 0', 'f 1' .., in a block below 'B'. -/
structure RdS (w : World) (B : Nat) (A : Option Addr) (n : Nat) (f : Nat → Nat) : Prop where
  nil : A = none → n = 0
  some_ : 0 < n → ∃ b o, A = some ⟨b, o, none⟩ ∧ b < B ∧ ∀ k, k < n → ∀ j, j < 4 → w.cell? ⟨b, o + k * 4 + j, none⟩ = some (.int .u64 (wd (f k) j : Int))
section
variable {w w' : World} {B B' n : Nat} {A : Option Addr} {f : Nat → Nat}
theorem RdS.keep (h : RdS w B A n f) (hb : Below B w w') : RdS w' B A n f :=
  ⟨h.nil, fun hn => by
    obtain ⟨b, o, e, hlt, hc⟩ := h.some_ hn
    exact ⟨b, o, e, hlt, fun k hk j hj => (hb.cell (p := ⟨b, o + k * 4 + j, none⟩) hlt).trans (hc k hk j hj)⟩⟩
theorem RdS.mono (h : RdS w B A n f) (hb : B ≤ B') : RdS w B' A n f :=
  ⟨h.nil, fun hn => by
    obtain ⟨b, o, e, hlt, hc⟩ := h.some_ hn
    exact ⟨b, o, e, by omega, hc⟩⟩
theorem RdS.at_ {k : Nat} (h : RdS w B A n f) (hk : k < n) : ∃ b o, A = some ⟨b, o, none⟩ ∧ b < B ∧ w.cell? ⟨b, o + k * 4, none⟩ = some (.int .u64 (wd (f k) 0 : Int)) ∧ w.cell? ⟨b, o + k * 4 + 1, none⟩ = some (.int .u64 (wd (f k) 1 : Int)) ∧
    w.cell? ⟨b, o + k * 4 + 2, none⟩ = some (.int .u64 (wd (f k) 2 : Int)) ∧ w.cell? ⟨b, o + k * 4 + 3, none⟩ = some (.int .u64 (wd (f k) 3 : Int)) := by
  obtain ⟨b, o, e, hlt, hc⟩ := h.some_ (by omega)
  exact ⟨b, o, e, hlt, hc k hk 0 (by decide), hc k hk 1 (by decide), hc k hk 2 (by decide), hc k hk 3 (by decide)⟩
end
def foldS (f : Nat → Nat) : Nat → Nat
  | 0 => 0
  | k + 1 => (foldS f k + f k) % LL
def foldM (f : Nat → Nat) : Nat → Nat
  | 0 => 1
  | k + 1 => foldM f k * f k % LL
theorem foldS_zero (f : Nat → Nat) : foldS f 0 = 0 := rfl
theorem foldM_zero (f : Nat → Nat) : foldM f 0 = 1 := rfl
abbrev OE (e : TypeId) : Obj := .cells #[.int .u64 1, .int .u64 0, .int .u64 0, .int .u64 0] e
theorem T4.one {w : World} {B : Nat} (hB : B ≤ w.heap.size) (e : TypeId) : T4 (w.alloc (OE e)) B w.heap.size 1 := by
  have h : ∀ k, 1 ≤ k → wd 1 k = 0 := fun k hk => dgt_zero_of_lt (Nat.lt_of_lt_of_le (show 1 < 18446744073709551616 ^ 1 by decide) (Nat.pow_le_pow_right (by decide) hk))
  have h0 : wd 1 0 = 1 := by simp [wd, dgt]
  refine ⟨e, OwnF.lit e hB _ 4 (wv 1) (by decide) ?_⟩
  simp [List.range_succ, wv, h0, h 1 (by decide), h 2 (by decide), h 3 (by decide)]
theorem foldS_succ (f : Nat → Nat) (k : Nat) : foldS f (k + 1) = (foldS f k + f k) % LL := rfl
theorem foldM_succ (f : Nat → Nat) (k : Nat) : foldM f (k + 1) = foldM f k * f k % LL := rfl
theorem foldS_lt (f : Nat → Nat) : ∀ k, foldS f k < W4
  | 0 => W4_pos
  | _ + 1 => LL_lt _
theorem foldM_lt (f : Nat → Nat) : ∀ k, foldM f k < W4
  | 0 => by show 1 < W4; decide +kernel
  | _ + 1 => LL_lt _
attribute [local irreducible] wd by8 foldS foldM
set_option maxRecDepth 20000
set_option maxHeartbeats 400000 in
theorem tfold_sum {A : Option Addr} {B c n : Nat} {f : Nat → Nat} (w : World) (h : RdS w B A n f) (hB : B ≤ w.heap.size) (hn : n ≤ 1000) (hf : ∀ k, k < n → f k < W4) :
    Calls Try.prog 32 #[.slice A n c, .bool false] w fun e w' => e = .returned (nv (foldS f n)) ∧ Below w.heap.size w w' := by
  have s1 : (w.alloc (ZE 25)).heap.size = w.heap.size + 1 := by simp
  have iz := (T4.zero (w := w) (B := w.heap.size) (Nat.le_refl _) 25).alloc (ZE 25)
  have io := T4.zero (w := w.alloc (ZE 25)) (B := w.heap.size) (by omega) 25
  have ic := ((Below.refl w.heap.size w).alloc (Nat.le_refl _) (ZE 25)).alloc (by omega) (ZE 25)
  rw [s1] at io
  clear s1
  have HF := Lib.hid hf
  clear hf
  go_enter Try.func32, Try.ntmps32
  go_wp2_with fail
  go_loopw [13] (fun i wr => ∃ k : Nat, k ≤ n ∧ i = .int .i64 k ∧ T4 wr w.heap.size (w.heap.size + 1) (foldS f k) ∧ T4 wr w.heap.size w.heap.size 0 ∧ Below w.heap.size w wr)
    (fun i _ => n - (intOf i).toNat)
  case atStart => exact ⟨0, by omega, rfl, by rw [foldS_zero]; exact io, iz, ic⟩
  case round =>
    clear io iz ic
    obtain ⟨k, hk, rfl, oo, oz, hc⟩ := hrel
    by_cases hlt : k < n
    · have g1 : (k : Int) < (n : Int) := by omega
      obtain ⟨b, o, rfl, hbB, c0, c1, c2, c3⟩ := (h.keep (hc.mono hB)).at_ hlt
      have hs := hc.size
      have HA : ∀ wz, Below wr.heap.size wr wz → wz.cell? ⟨(w.heap.size + 1), 0, none⟩ = some (.int .u64 (wd (foldS f k) 0 : Int)) ∧ wz.cell? ⟨(w.heap.size + 1), 1, none⟩ = some (.int .u64 (wd (foldS f k) 1 : Int)) ∧ wz.cell? ⟨(w.heap.size + 1), 2, none⟩ = some (.int .u64 (wd (foldS f k) 2 : Int)) ∧ wz.cell? ⟨(w.heap.size + 1), 3, none⟩ = some (.int .u64 (wd (foldS f k) 3 : Int)) ∧ wz.cell? ⟨b, o + k * 4, none⟩ = some (.int .u64 (wd (f k) 0 : Int)) ∧ wz.cell? ⟨b, o + k * 4 + 1, none⟩ = some (.int .u64 (wd (f k) 1 : Int)) ∧
          wz.cell? ⟨b, o + k * 4 + 2, none⟩ = some (.int .u64 (wd (f k) 2 : Int)) ∧ wz.cell? ⟨b, o + k * 4 + 3, none⟩ = some (.int .u64 (wd (f k) 3 : Int)) := fun wz hz => by
        obtain ⟨a0, a1, a2, a3⟩ := (oo.keep hz).c4
        have hlb : b < wr.heap.size := by omega
        exact ⟨a0, a1, a2, a3, (hz.cell (p := ⟨b, _, none⟩) hlb).trans c0, (hz.cell (p := ⟨b, _, none⟩) hlb).trans c1, (hz.cell (p := ⟨b, _, none⟩) hlb).trans c2, (hz.cell (p := ⟨b, _, none⟩) hlb).trans c3⟩
      have HS := Lib.hid HA
      clear HA c0 c1 c2 c3
      have KA := Lib.hid (fun w => tadd_any (foldS_lt f k) (HF.out k hlt) w)
      obtain ⟨x, hx⟩ : ∃ x, x = foldS f k := ⟨_, rfl⟩
      obtain ⟨y, hy⟩ : ∃ y, y = f k := ⟨_, rfl⟩
      obtain ⟨r, hr⟩ : ∃ r, r = (x + y) % LL := ⟨_, rfl⟩
      have hfs : foldS f (k + 1) = r := by rw [hr, hx, hy]; exact foldS_succ f k
      rw [← hx] at oo
      rw [← hx, ← hy] at HS KA
      rw [← hr] at KA
      clear hx hy hr
      go_upto_region 7 with fail
      refine wp_region_seq 7 (fun wz => Below wr.heap.size wr wz) (by kernel_rfl) (by kernel_rfl) (Below.refl _ wr).drew ?_
      simp only [List.take_succ_cons, List.take_zero, List.drop_succ_cons, List.drop_zero]
      refine Seq.run (.func (.func 25) #[] #[]) rfl (fun wz hz => by go_simp) ?_
      go_simp
      refine Seq.run (nv x) rfl (fun wz hz => by obtain ⟨a0, a1, a2, a3, -⟩ := HS.out wz hz; go_simp) ?_
      go_simp
      refine Seq.run (.slice (some ⟨b, o, none⟩) n c) rfl (fun wz hz => by go_simp) ?_
      go_simp
      refine Seq.run (.int .i64 k) rfl (fun wz hz => by go_simp) ?_
      go_simp
      refine Seq.run (.pointer (some ⟨b, o + k * 4, none⟩)) rfl (fun wz hz => by go_simp) ?_
      go_simp
      refine Seq.run (nv y) rfl (fun wz hz => by obtain ⟨-, -, -, -, b0, b1, b2, b3⟩ := HS.out wz hz; go_simp) ?_
      go_simp
      refine Seq.call (nv r) 25 #[nv x, nv y] rfl (fun wz hz => by go_simp) (fun wz hz => (KA.out wz).mono fun e w' ⟨he, h1⟩ => ⟨he, hz.trans (h1.mono hz.size)⟩) ?_
      go_simp
      refine Seq.nil fun wz hd => ?_
      replace oo := oo.keep hd
      replace oz := oz.keep hd
      replace hc := hc.trans (hd.mono hs)
      obtain ⟨z0, z1, z2, z3⟩ := oo.c4
      obtain ⟨f0, f1, f2, f3⟩ := oo.f4
      have oy := oo.put r
      have hby := oo.below r
      have hne : w.heap.size + 1 ≠ w.heap.size := by omega
      replace oz := oz.other hne r
      unfold set4w at oy hby oz
      clear HS KA hd hs
      go_wp2_with fail
      refine ⟨⟨k + 1, by omega, by go_num, by rw [hfs]; exact oy, oz, hc.trans hby⟩, by simp [intOf]; omega⟩
    · obtain rfl : k = n := by omega
      obtain ⟨s0, s1, s2, s3⟩ := oo.c4
      clear h HF
      obtain ⟨z0, z1, z2, z3⟩ := oz.c4
      obtain ⟨f0, f1, f2, f3⟩ := oz.f4
      obtain ⟨wz, ez, or, hb, _⟩ := oz.out (foldS f k)
      obtain ⟨r0, r1, r2, r3⟩ := or.c4
      go_wp2_with fail
      rw [← ez]
      refine bodyPost_ret (v := nv (foldS f k)) (by simp [results, Try.results32, go_sem, r0, r1, r2, r3]) rfl ⟨rfl, hc.trans hb⟩
set_option maxHeartbeats 400000 in
theorem tfold_mul {A : Option Addr} {B c n : Nat} {f : Nat → Nat} (w : World) (h : RdS w B A n f) (hB : B ≤ w.heap.size) (hn : n ≤ 1000) (hf : ∀ k, k < n → f k < W4) :
    Calls Try.prog 32 #[.slice A n c, .bool true] w fun e w' => e = .returned (nv (foldM f n)) ∧ Below w.heap.size w w' := by
  have s1 : (w.alloc (ZE 25)).heap.size = w.heap.size + 1 := by simp
  have iz := (T4.zero (w := w) (B := w.heap.size) (Nat.le_refl _) 25).alloc (OE 25)
  have io := T4.one (w := w.alloc (ZE 25)) (B := w.heap.size) (by omega) 25
  have ic := ((Below.refl w.heap.size w).alloc (Nat.le_refl _) (ZE 25)).alloc (by omega) (OE 25)
  rw [s1] at io
  clear s1
  have HF := Lib.hid hf
  clear hf
  go_enter Try.func32, Try.ntmps32
  go_wp2_with fail
  go_loopw [13] (fun i wr => ∃ k : Nat, k ≤ n ∧ i = .int .i64 k ∧ T4 wr w.heap.size (w.heap.size + 1) (foldM f k) ∧ T4 wr w.heap.size w.heap.size 0 ∧ Below w.heap.size w wr)
    (fun i _ => n - (intOf i).toNat)
  case atStart => exact ⟨0, by omega, rfl, by rw [foldM_zero]; exact io, iz, ic⟩
  case round =>
    clear io iz ic
    obtain ⟨k, hk, rfl, oo, oz, hc⟩ := hrel
    by_cases hlt : k < n
    · have g1 : (k : Int) < (n : Int) := by omega
      obtain ⟨b, o, rfl, hbB, c0, c1, c2, c3⟩ := (h.keep (hc.mono hB)).at_ hlt
      have hs := hc.size
      have HA : ∀ wz, Below wr.heap.size wr wz → wz.cell? ⟨(w.heap.size + 1), 0, none⟩ = some (.int .u64 (wd (foldM f k) 0 : Int)) ∧ wz.cell? ⟨(w.heap.size + 1), 1, none⟩ = some (.int .u64 (wd (foldM f k) 1 : Int)) ∧ wz.cell? ⟨(w.heap.size + 1), 2, none⟩ = some (.int .u64 (wd (foldM f k) 2 : Int)) ∧ wz.cell? ⟨(w.heap.size + 1), 3, none⟩ = some (.int .u64 (wd (foldM f k) 3 : Int)) ∧ wz.cell? ⟨b, o + k * 4, none⟩ = some (.int .u64 (wd (f k) 0 : Int)) ∧ wz.cell? ⟨b, o + k * 4 + 1, none⟩ = some (.int .u64 (wd (f k) 1 : Int)) ∧
          wz.cell? ⟨b, o + k * 4 + 2, none⟩ = some (.int .u64 (wd (f k) 2 : Int)) ∧ wz.cell? ⟨b, o + k * 4 + 3, none⟩ = some (.int .u64 (wd (f k) 3 : Int)) := fun wz hz => by
        obtain ⟨a0, a1, a2, a3⟩ := (oo.keep hz).c4
        have hlb : b < wr.heap.size := by omega
        exact ⟨a0, a1, a2, a3, (hz.cell (p := ⟨b, _, none⟩) hlb).trans c0, (hz.cell (p := ⟨b, _, none⟩) hlb).trans c1, (hz.cell (p := ⟨b, _, none⟩) hlb).trans c2, (hz.cell (p := ⟨b, _, none⟩) hlb).trans c3⟩
      have HS := Lib.hid HA
      clear HA c0 c1 c2 c3
      have KA := Lib.hid (fun w => tmul_any (foldM_lt f k) (HF.out k hlt) w)
      obtain ⟨x, hx⟩ : ∃ x, x = foldM f k := ⟨_, rfl⟩
      obtain ⟨y, hy⟩ : ∃ y, y = f k := ⟨_, rfl⟩
      obtain ⟨r, hr⟩ : ∃ r, r = x * y % LL := ⟨_, rfl⟩
      have hfs : foldM f (k + 1) = r := by rw [hr, hx, hy]; exact foldM_succ f k
      rw [← hx] at oo
      rw [← hx, ← hy] at HS KA
      rw [← hr] at KA
      clear hx hy hr
      go_upto_region 7 with fail
      refine wp_region_seq 7 (fun wz => Below wr.heap.size wr wz) (by kernel_rfl) (by kernel_rfl) (Below.refl _ wr).drew ?_
      simp only [List.take_succ_cons, List.take_zero, List.drop_succ_cons, List.drop_zero]
      refine Seq.run (.func (.func 30) #[] #[]) rfl (fun wz hz => by go_simp) ?_
      go_simp
      refine Seq.run (nv x) rfl (fun wz hz => by obtain ⟨a0, a1, a2, a3, -⟩ := HS.out wz hz; go_simp) ?_
      go_simp
      refine Seq.run (.slice (some ⟨b, o, none⟩) n c) rfl (fun wz hz => by go_simp) ?_
      go_simp
      refine Seq.run (.int .i64 k) rfl (fun wz hz => by go_simp) ?_
      go_simp
      refine Seq.run (.pointer (some ⟨b, o + k * 4, none⟩)) rfl (fun wz hz => by go_simp) ?_
      go_simp
      refine Seq.run (nv y) rfl (fun wz hz => by obtain ⟨-, -, -, -, b0, b1, b2, b3⟩ := HS.out wz hz; go_simp) ?_
      go_simp
      refine Seq.call (nv r) 30 #[nv x, nv y] rfl (fun wz hz => by go_simp) (fun wz hz => (KA.out wz).mono fun e w' ⟨he, h1⟩ => ⟨he, hz.trans (h1.mono hz.size)⟩) ?_
      go_simp
      refine Seq.nil fun wz hd => ?_
      replace oo := oo.keep hd
      replace oz := oz.keep hd
      replace hc := hc.trans (hd.mono hs)
      obtain ⟨z0, z1, z2, z3⟩ := oo.c4
      obtain ⟨f0, f1, f2, f3⟩ := oo.f4
      have oy := oo.put r
      have hby := oo.below r
      have hne : w.heap.size + 1 ≠ w.heap.size := by omega
      replace oz := oz.other hne r
      unfold set4w at oy hby oz
      clear HS KA hd hs
      go_wp2_with fail
      refine ⟨⟨k + 1, by omega, by go_num, by rw [hfs]; exact oy, oz, hc.trans hby⟩, by simp [intOf]; omega⟩
    · obtain rfl : k = n := by omega
      obtain ⟨s0, s1, s2, s3⟩ := oo.c4
      clear h HF
      obtain ⟨z0, z1, z2, z3⟩ := oz.c4
      obtain ⟨f0, f1, f2, f3⟩ := oz.f4
      obtain ⟨wz, ez, or, hb, _⟩ := oz.out (foldM f k)
      obtain ⟨r0, r1, r2, r3⟩ := or.c4
      go_wp2_with fail
      rw [← ez]
      refine bodyPost_ret (v := nv (foldM f k)) (by simp [results, Try.results32, go_sem, r0, r1, r2, r3]) rfl ⟨rfl, hc.trans hb⟩
end Go.Proofs.Ytecphnhdcphgbaa
