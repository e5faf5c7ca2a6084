/-
  Layer 11's code: a block's number. By an AI agent. Layer 11's code: fold, step, settle. By an AI agent. Layer 11's code: step, settle. By an AI agent. Layer 11's code: Tag. Written by tools/gen_po8.py. By an AI agent.
-/
import Derived.Test.YtmhfkabpfkoocaaDoorPo1
import Derived.Test.YtmhfkabpfkoocaaDoorMF
import Derived.Test.YtmhfkabpfkoocaaDoorBox
import Derived.Test.YtmhfkabpfkoocaaDoorPo2
import Derived.Test.YtmhfkabpfkoocaaDoorPo3
import Derived.Test.YtmhfkabpfkoocaaDoorPo4
namespace Go.Proofs.YtmhfkabpfkoocaaDoor
open Go Go.RowKit
set_option maxRecDepth 20000
abbrev ZC17 : Array Value := #[.int .u8 0, .int .u8 0, .int .u8 0, .int .u8 0, .int .u8 0, .int .u8 0, .int .u8 0, .int .u8 0, .int .u8 0, .int .u8 0, .int .u8 0, .int .u8 0, .int .u8 0, .int .u8 0, .int .u8 0, .int .u8 0, .int .u8 0]
/-- The bytes and a one behind them. -/
theorem num_cell (bs : List UInt8) {n : Nat} (hn : bs.length = n) {k : Nat} (hk : k < n + 1) : (if k = n then Value.int .u8 1 else fput (fun _ => .int .u8 0) 0 n (bvf bs) k) = bvf (bs ++ [1]) k := by
  unfold bvf fput
  by_cases h : k = n
  · rw [if_pos h]
    have e : nth (bs ++ [1]) k = 1 := by
      unfold nth
      rw [List.getElem?_append_right (by omega), show k - bs.length = 0 by omega]
      rfl
    rw [e]; rfl
  · rw [if_neg h, if_pos (by omega), Nat.sub_zero]
    have e : nth (bs ++ [1]) k = nth bs k := by
      unfold nth
      rw [List.getElem?_append_left (by omega)]
    rw [e]
theorem p_rd {w : World} {B g C N n : Nat} {e : TypeId} {f : Nat → Value} {P : List UInt8} (o : OwnF w B e (some ⟨g, 0, none⟩) C N f) (hl : P.length = n) (hn : n ≤ N) (hc : n ≤ C) (hf : ∀ k, k < n → f k = bvf P k) : Rd w w.heap.size (some ⟨g, 0, none⟩) C P :=
  ⟨by omega, fun h => by simp at h, fun _ => ⟨g, 0, rfl, OwnF.lt o, fun k hk => by rw [Nat.zero_add, OwnF.cell o (by omega), hf k (by omega)]; rfl⟩⟩
theorem from_len (w : World) {B c n : Nat} {A : Option Addr} {bs : List UInt8} (hn : bs.length = n) (hr : Rd w B A c bs) (hB : B ≤ w.heap.size) (hl : n ≤ 32) :
    Calls Tryd.prog 45 #[.slice A n c] w fun e w' => e = .returned (.tuple #[nv (vb bs), .int .i64 0]) ∧ Below w.heap.size w w' := by
  subst hn
  exact from_good w hr hB hl
theorem slice17 (w : World) {g m : Nat} (h : m ≤ 17) : (Instr.sliceAt 85 (.pointer (some ⟨g, 0, none⟩)) none (some (.int .i64 (m : Int))) none).run Tryd.prog w = .ok (.slice (some ⟨g, 0, none⟩) m 17) w := by
  have h3 := size_u8 w
  unfold Instr.sliceAt Instr.sliceBounds Instr.sliceBound
  simp [Sem.run_bind, asIntOf, run_underlying Tryd.underlying85 w, Instr.sureAddr, h3, Addr.add_mid, h]
section
attribute [local irreducible] rl setA vb wd
set_option maxHeartbeats 3200000 in
theorem number_any {A : Option Addr} {c : Nat} {bs : List UInt8} (hl : bs.length ≤ 16) (w : World) (hr : Rd w w.heap.size A c bs) :
    Calls Tryd.prog 47 #[.slice A bs.length c] w fun e w' => e = .returned (nv (vb (bs ++ [1]))) ∧ Below w.heap.size w w' := by
  obtain ⟨n, hn⟩ : ∃ n, n = bs.length := ⟨_, rfl⟩
  rw [← hn] at hl ⊢
  obtain ⟨d, ed⟩ : ∃ d, d = vb (bs ++ [1]) := ⟨_, rfl⟩
  rw [← ed]
  have HD := Lib.hid ed
  have HN := Lib.hid hn
  have HB1 := Lib.hid (show (bs ++ [1]).length = n + 1 by simp [hn])
  have HM := Lib.hid (show n = Nat.min n 17 from (Nat.min_eq_left (by omega)).symm)
  have s1 : (w.alloc Z4).heap.size = w.heap.size + 1 := by simp
  have o17 := OwnF.lit (w := w.alloc Z4) (B := w.heap.size) 85 (by omega) ZC17 17 (fun _ => .int .u8 0) (by decide) (by rfl)
  have b1 := (Below.refl w.heap.size w).alloc (Nat.le_refl _) Z4
  have b2 : Below (w.alloc Z4).heap.size (w.alloc Z4) ((w.alloc Z4).alloc (.cells ZC17 85)) := (Below.refl _ _).alloc (Nat.le_refl _) _
  have oz : O4 ((w.alloc Z4).alloc (.cells ZC17 85)) w.heap.size w.heap.size 0 := (O4.zero (own_Z4 (w := w) (Nat.le_refl _))).keep b2
  have hc := b1.trans (b2.mono (by omega))
  have hr2 := hr.keep hc
  rw [s1] at o17
  clear ed hn b1 b2 s1 hr
  go_enter Tryd.func47, Tryd.ntmps47
  go_upto_region 2 with fail
  obtain ⟨v2, e2⟩ : ∃ v, v = (w.alloc Z4).alloc (.cells ZC17 85) := ⟨_, rfl⟩
  obtain ⟨gB, eB⟩ : ∃ g, g = w.heap.size + 1 := ⟨_, rfl⟩
  obtain ⟨gz, ez⟩ : ∃ g, g = w.heap.size := ⟨_, rfl⟩
  rw [← e2] at o17 oz hc hr2 ⊢
  replace o17 : OwnF v2 w.heap.size 85 (some ⟨gB, 0, none⟩) 17 17 (fun _ => .int .u8 0) := by rw [eB]; exact o17
  replace oz : O4 v2 w.heap.size gz 0 := by rw [ez]; exact oz
  rw [← eB, ← ez]
  have hne := Lib.hid (show gB ≠ gz by omega)
  clear e2 eB ez
  have oc := av_put o17 0 n (bvf bs)
  have on := av_only v2 gB 0 n (bvf bs)
  have hcp := fun (ops : Array Oper) (rest2 : List Oper) (a : Act) (Q : Exit → Act → World → Prop) (d s : Operand) (dst : Option Nat) (tp : TypeId) (ps : String) (af : Array Edge) => copy_to (ops := ops) (rest := rest2) (a := a) (Q := Q) (d := d) (s := s) (dst := dst) (tp := tp) (ps := ps) (af := af) (off := 0) (dl := 17) (dc := 17) (m := n) o17 hr2 (by rw [← HN.out]; exact HM.out) (by omega)
  rw [← HN.out] at hcp
  have HCP := Lib.hid hcp
  clear hcp
  go_upto_region 3 with ((refine HCP.out _ _ _ _ _ _ _ _ _ _ ?_ ?_ ?_); rfl; rfl)
  obtain ⟨v3, e3⟩ : ∃ v, v = setA v2 gB 0 n (bvf bs) := ⟨_, rfl⟩
  rw [← e3] at oc on ⊢
  have HGB := Lib.hid (OwnF.ge o17)
  replace oz : O4 v3 w.heap.size gz 0 := OwnF.only oz on hne.out
  replace hc := hc.trans (on.below HGB.out)
  clear e3 on HCP o17 hr2
  have o1 := OwnF.set_ oc n (.int .u8 1)
  have oz1 : O4 (v3.setCell ⟨gB, n, none⟩ (.int .u8 1)) w.heap.size gz 0 := OwnF.other oz (p := ⟨gB, n, none⟩) hne.out _
  have hc1 := hc.setCell (p := ⟨gB, n, none⟩) HGB.out (.int .u8 1)
  have fr := OwnF.free oc n
  obtain ⟨ov, cl⟩ : ∃ u, v3.cell? ⟨gB, n, none⟩ = some u := ⟨_, OwnF.cell oc (k := n) (by omega)⟩
  have g1 : (n : Int) < 17 := by omega
  obtain ⟨m, em⟩ : ∃ m, m = n + 1 := ⟨_, rfl⟩
  have w1 : IntKind.i64.wrap ((n : Int) + 1) = (m : Int) := by rw [IntKind.wrap_i64]; omega
  have HMM := Lib.hid em
  clear em
  clear oz hc oc
  go_upto_region 4 with fail
  obtain ⟨v4, e4⟩ : ∃ v, v = v3.setCell ⟨gB, n, none⟩ (.int .u8 1) := ⟨_, rfl⟩
  rw [← e4] at o1 oz1 hc1 ⊢
  clear e4 fr cl
  have rd := p_rd o1 HB1.out (by omega) (by omega) fun k hk => num_cell bs HN.out.symm hk
  have g2 : m ≤ 17 := by rw [HMM.out]; omega
  clear o1
  have hsl := slice17 v4 (g := gB) (m := m) g2
  go_wp2_with fail
  go_at_call 45
  refine (from_len v4 (HB1.out.trans HMM.out.symm) rd (Nat.le_refl _) (by omega)).mono ?_
  rintro e v5 ⟨rfl, h0⟩
  rw [← HD.out]
  replace oz := oz1.keep h0
  replace hc := hc1.trans (h0.mono hc1.size)
  clear oz1 hc1 h0 rd
  obtain ⟨d0, d1, d2, d3⟩ := (O4.new (w := v5) (B := v5.heap.size) (Nat.le_refl _) d).c4
  replace oz := oz.alloc (A4 d)
  replace hc := hc.alloc hc.size (A4 d)
  obtain ⟨z0, z1, z2, z3⟩ := oz.c4
  obtain ⟨f0, f1, f2, f3⟩ := oz.f4
  obtain ⟨wz, ez, or, hb, _⟩ := oz.out d
  obtain ⟨r0, r1, r2, r3⟩ := or.c4
  go_wp2_with fail
  rw [← ez]
  refine bodyPost_ret (v := nv d) (by simp [results, Tryd.results47, go_sem, r0, r1, r2, r3]) rfl ⟨rfl, hc.trans hb⟩
end
end Go.Proofs.YtmhfkabpfkoocaaDoor
namespace Go.Proofs.YtmhfkabpfkoocaaDoor
open Go Go.RowKit
set_option maxRecDepth 20000
/-- What is above 2^130 is taken as 5 times as much. -/
def foldN (a : Nat) : Nat := a % 1361129467683753853853498429727072845824 + 5 * (a / 1361129467683753853853498429727072845824)
theorem foldN_mod (a : Nat) : foldN a % P130 = a % P130 := by
  have e : a = foldN a + P130 * (a / 1361129467683753853853498429727072845824) := by unfold foldN P130; omega
  rw [e, Nat.add_mul_mod_self_left, ← e]
theorem foldN_lt {a : Nat} (h : a < 57896044618658097711785492504343953926634992332820282019728792003956564819968) : foldN a < 1701411834604692317316873037158841057280 := by unfold foldN; omega
def foldK (a k : Nat) : Nat := a % 1361129467683753853853498429727072845824 + k * (a / 1361129467683753853853498429727072845824)
theorem foldK_five (a : Nat) : foldK a 5 = foldN a := rfl
theorem foldK_next (a k : Nat) : foldK a k + a / 1361129467683753853853498429727072845824 = foldK a (k + 1) := by unfold foldK; rw [Nat.add_mul]; omega
theorem W4_lit : W4 = 115792089237316195423570985008687907853269984665640564039457584007913129639936 := by decide +kernel
theorem hi0 (a : Nat) : wd (a / 1361129467683753853853498429727072845824) 0 = wd a 2 / 4 + wd a 3 % 4 * 4611686018427387904 := by
  unfold wd dgt
  simp only [Nat.reducePow, Nat.pow_zero, Nat.div_one]
  omega
theorem hi1 {a : Nat} (h : a < W4) : wd (a / 1361129467683753853853498429727072845824) 1 = wd a 3 / 4 := by
  rw [W4_lit] at h
  unfold wd dgt
  simp only [Nat.reducePow]
  omega
theorem hi2 {a : Nat} (h : a < W4) : wd (a / 1361129467683753853853498429727072845824) 2 = 0 := by
  rw [W4_lit] at h
  unfold wd dgt
  simp only [Nat.reducePow]
  omega
theorem hi3 {a : Nat} (h : a < W4) : wd (a / 1361129467683753853853498429727072845824) 3 = 0 := by
  rw [W4_lit] at h
  unfold wd dgt
  simp only [Nat.reducePow]
  omega
theorem lo0 (a : Nat) : wd (a % 1361129467683753853853498429727072845824) 0 = wd a 0 := by
  unfold wd dgt
  simp only [Nat.pow_zero, Nat.div_one]
  omega
theorem lo1 (a : Nat) : wd (a % 1361129467683753853853498429727072845824) 1 = wd a 1 := by
  unfold wd dgt
  simp only [Nat.reducePow]
  omega
theorem lo2 (a : Nat) : wd (a % 1361129467683753853853498429727072845824) 2 = wd a 2 % 4 := by
  unfold wd dgt
  simp only [Nat.reducePow]
  omega
theorem lo3 (a : Nat) : wd (a % 1361129467683753853853498429727072845824) 3 = 0 := by
  unfold wd dgt
  simp only [Nat.reducePow]
  omega
theorem or_62 {x y : Nat} (hx : x < 18446744073709551616) : bits .or .u64 ((x : Int) / 4) (IntKind.u64.wrap ((y : Int) * 4611686018427387904)) = ((x / 4 + y % 4 * 4611686018427387904 : Nat) : Int) := by
  have e1 : (x : Int) / 4 = ((x / 4 : Nat) : Int) := by omega
  have e2 : IntKind.u64.wrap ((y : Int) * 4611686018427387904) = ((y % 4 * 4611686018427387904 : Nat) : Int) := by rw [IntKind.wrap_u64]; omega
  have e3 : (y % 4 * 4611686018427387904) ||| (x / 4) = y % 4 * 4611686018427387904 + x / 4 := by
    rw [Nat.mul_comm, show (4611686018427387904 : Nat) = 2 ^ 62 by decide]
    exact (Nat.two_pow_add_eq_or_of_lt (i := 62) (b := x / 4) (by omega) (y % 4)).symm
  rw [e1, e2, bits_or_u64_nat _ _ (by omega) (by omega), Nat.or_comm, e3, Nat.add_comm]
theorem and_3 {x : Nat} (hx : x < 18446744073709551616) : bits .and .u64 (x : Int) 3 = ((x % 4 : Nat) : Int) := by
  have h := bits_and_u64_nat x 3 hx (by decide)
  rw [show (3 : Nat) = 2 ^ 2 - 1 from rfl, Nat.and_two_pow_sub_one_eq_mod] at h
  exact h
theorem O4.in_ {w : World} {B g x : Nat} (h : O4 w B g x) (y : Nat) : ∃ wz, wz = ((((w.setCell ⟨g, 0, none⟩ (.int .u64 (wd y 0 : Int))).setCell ⟨g, 1, none⟩ (.int .u64 (wd y 1 : Int))).setCell ⟨g, 2, none⟩ (.int .u64 (wd y 2 : Int))).setCell ⟨g, 3, none⟩ (.int .u64 (wd y 3 : Int))) ∧
    O4 wz B g y ∧ Below B w wz ∧ wz.heap.size = w.heap.size ∧ ∀ B' g' x', g' ≠ g → O4 w B' g' x' → O4 wz B' g' x' := ⟨_, rfl, h.put y, h.below y, set4w_size w g y, fun _ _ _ hn ho => ho.other (Ne.symm hn) y⟩
section
attribute [local irreducible] wd
set_option maxHeartbeats 3200000 in
theorem fold_any {a : Nat} (ha : a < W4) (w : World) :
    Calls Tryd.prog 59 #[nv a] w fun e w' => e = .returned (nv (foldN a)) ∧ Below w.heap.size w w' := by
  obtain ⟨r, er⟩ : ∃ r, r = foldN a := ⟨_, rfl⟩
  rw [← er]
  have HR := Lib.hid er
  obtain ⟨lo, el⟩ : ∃ lo, lo = a % 1361129467683753853853498429727072845824 := ⟨_, rfl⟩
  obtain ⟨ab, eb⟩ : ∃ ab, ab = a / 1361129467683753853853498429727072845824 := ⟨_, rfl⟩
  have k0 : lo = foldK a 0 := by rw [el]; unfold foldK; omega
  have kn : ∀ k, foldK a k + ab = foldK a (k + 1) := fun k => by rw [eb]; exact foldK_next a k
  have HK0 := Lib.hid k0
  have HKN := Lib.hid kn
  have l0 := lo0 a
  have l1 := lo1 a
  have l2 := lo2 a
  have l3 := lo3 a
  have h0 := hi0 a
  have h1 := hi1 ha
  have h2 := hi2 ha
  have h3 := hi3 ha
  rw [← el] at l0 l1 l2 l3
  rw [← eb] at h0 h1 h2 h3
  have q0 := or_62 (y := wd a 3) (wd_lt a 2)
  rw [← h0] at q0
  have q1 := and_3 (wd_lt a 2)
  rw [← l2] at q1
  have q2 : (wd a 3 : Int) / 4 = ((wd ab 1 : Nat) : Int) := by rw [h1]; omega
  have ew : (((w.alloc (.cells #[.int .u64 (wd a 0 : Int), .int .u64 (wd a 1 : Int), .int .u64 (wd lo 2 : Int), .int .u64 0] 65)).alloc Z4).alloc (.cells #[.int .u64 (wd ab 0 : Int), .int .u64 (wd ab 1 : Int), .int .u64 0, .int .u64 0] 65)) = ((w.alloc (A4 lo)).alloc Z4).alloc (A4 ab) := by
    show _ = ((w.alloc (.cells #[.int .u64 (wd lo 0 : Int), .int .u64 (wd lo 1 : Int), .int .u64 (wd lo 2 : Int), .int .u64 (wd lo 3 : Int)] 65)).alloc Z4).alloc (.cells #[.int .u64 (wd ab 0 : Int), .int .u64 (wd ab 1 : Int), .int .u64 (wd ab 2 : Int), .int .u64 (wd ab 3 : Int)] 65)
    rw [l0, l1, l3, h2, h3]
    rfl
  have s1 : (w.alloc (A4 lo)).heap.size = w.heap.size + 1 := by simp
  have s2 : ((w.alloc (A4 lo)).alloc Z4).heap.size = w.heap.size + 2 := by simp
  have o1 : O4 (((w.alloc (A4 lo)).alloc Z4).alloc (A4 ab)) w.heap.size w.heap.size lo := ((O4.new (w := w) (Nat.le_refl _) lo).alloc Z4).alloc (A4 ab)
  have o2 : O4 (((w.alloc (A4 lo)).alloc Z4).alloc (A4 ab)) w.heap.size (w.alloc (A4 lo)).heap.size 0 := (O4.zero (own_Z4 (w := w.alloc (A4 lo)) (B := w.heap.size) (by omega))).alloc (A4 ab)
  have o3 : O4 (((w.alloc (A4 lo)).alloc Z4).alloc (A4 ab)) w.heap.size ((w.alloc (A4 lo)).alloc Z4).heap.size ab := O4.new (by omega) ab
  have hc : Below w.heap.size w (((w.alloc (A4 lo)).alloc Z4).alloc (A4 ab)) := (((Below.refl _ w).alloc (Nat.le_refl _) _).alloc (by omega) _).alloc (by omega) _
  rw [s1] at o2
  rw [s2] at o3
  have HW := Lib.hid ew
  clear er el eb k0 kn l0 l1 l2 l3 h0 h1 h2 h3 ew s1 s2 ha
  unfold nv
  go_enter Tryd.func59, Tryd.ntmps59
  go_upto_region 3 with fail
  rw [HW.out]
  obtain ⟨v3, e3⟩ : ∃ v, v = ((w.alloc (A4 lo)).alloc Z4).alloc (A4 ab) := ⟨_, rfl⟩
  obtain ⟨g1, f1⟩ : ∃ g, g = w.heap.size := ⟨_, rfl⟩
  obtain ⟨g2, f2⟩ : ∃ g, g = w.heap.size + 1 := ⟨_, rfl⟩
  obtain ⟨g3, f3⟩ : ∃ g, g = w.heap.size + 1 + 1 := ⟨_, rfl⟩
  rw [← e3] at o1 o2 o3 hc ⊢
  replace o1 : O4 v3 w.heap.size g1 lo := by rw [f1]; exact o1
  replace o2 : O4 v3 w.heap.size g2 0 := by rw [f2]; exact o2
  replace o3 : O4 v3 w.heap.size g3 ab := by rw [f3]; exact o3
  rw [← f3, ← f2, ← f1]
  have n21 := Lib.hid (show g2 ≠ g1 by omega)
  have n31 := Lib.hid (show g3 ≠ g1 by omega)
  clear e3 f1 f2 f3 HW q0 q1 q2
  rw [HK0.out] at o1
  go_wp2_with fail
  go_loopw [20] (fun i wr => ∃ k : Nat, k ≤ 5 ∧ i = .int .i64 (k : Int) ∧ O4 wr w.heap.size g1 (foldK a k) ∧ O4 wr w.heap.size g2 0 ∧ O4 wr w.heap.size g3 ab ∧ Below w.heap.size w wr)
    (fun i _ => 6 - (intOf i).toNat)
  case atStart => exact ⟨0, by omega, rfl, o1, o2, o3, hc⟩
  case round =>
    clear o1 o2 o3 hc
    obtain ⟨k, hk, rfl, o1, o2, o3, hc⟩ := hrel
    by_cases hlt : k < 5
    · have g1' : (k : Int) < 5 := by omega
      have w1 : IntKind.i64.wrap ((k : Int) + 1) = (k : Int) + 1 := by rw [IntKind.wrap_i64]; omega
      have hkn := HKN.out k
      obtain ⟨x, ex⟩ : ∃ x, x = foldK a k := ⟨_, rfl⟩
      rw [← ex] at o1 hkn
      have HX := Lib.hid hkn
      clear ex hkn
      obtain ⟨a0, a1, a2, a3⟩ := o1.c4
      obtain ⟨b0, b1, b2, b3⟩ := o3.c4
      go_wp2_with fail
      go_at_call 48
      refine (add_any x ab wr).mono ?_
      rintro e v4 ⟨rfl, h0⟩
      rw [HX.out]
      replace o1 := o1.keep h0
      replace o2 := o2.keep h0
      replace o3 := o3.keep h0
      replace hc := hc.trans (h0.mono hc.size)
      clear a0 a1 a2 a3 b0 b1 b2 b3 h0
      obtain ⟨a0, a1, a2, a3⟩ := o1.c4
      obtain ⟨f0, f1, f2, f3⟩ := o1.f4
      obtain ⟨z, ez'⟩ : ∃ z, z = foldK a (k + 1) := ⟨_, rfl⟩
      rw [← ez']
      have HZ := Lib.hid ez'
      clear ez'
      obtain ⟨wz, ez, oz, hb, _, hoth⟩ := o1.in_ z
      replace o2 := hoth _ _ _ n21.out o2
      replace o3 := hoth _ _ _ n31.out o3
      have hcz := hc.trans hb
      have HO := Lib.hid (And.intro oz (And.intro o2 (And.intro o3 hcz)))
      clear hoth oz o2 o3 hcz hb hc o1
      go_wp2_with fail
      rw [← ez]
      go_roundw
      case rel => exact ⟨k + 1, by omega, by go_num, by rw [← HZ.out]; exact HO.out.1, HO.out.2.1, HO.out.2.2.1, HO.out.2.2.2⟩
      case measure => simp [intOf]; omega
    · obtain rfl : k = 5 := by omega
      simp only [Int.cast_ofNat_Int]
      rw [foldK_five, ← HR.out] at o1
      obtain ⟨d0, d1, d2, d3⟩ := o1.c4
      have oz := o2
      obtain ⟨z0, z1, z2, z3⟩ := oz.c4
      obtain ⟨f0, f1, f2, f3⟩ := oz.f4
      obtain ⟨wz, ez, or, hb, _⟩ := oz.out r
      obtain ⟨r0, r1, r2, r3⟩ := or.c4
      go_wp2_with fail
      rw [← ez]
      refine bodyPost_ret (v := nv r) (by simp [results, Tryd.results59, go_sem, r0, r1, r2, r3]) rfl ⟨rfl, hc.trans hb⟩
end
end Go.Proofs.YtmhfkabpfkoocaaDoor
namespace Go.Proofs.YtmhfkabpfkoocaaDoor
open Go Go.RowKit
set_option maxRecDepth 20000
theorem l_p130 : nv P130 = lit4 18446744073709551611 18446744073709551615 3 0 := by kernel_rfl
theorem p130_W4 : P130 < W4 := by decide +kernel
theorem stepN_W4 {a n r : Nat} (ha : a < 1701411834604692317316873037158841057280) (hn : n < 680564733841876926926749214863536422912) (hr : r < 21267647932558653966460912964485513216) : a + n < W4 ∧ (a + n) * r < 57896044618658097711785492504343953926634992332820282019728792003956564819968 := by
  have h1 : a + n < 2722258935367507707706996859454145691648 := by omega
  refine ⟨Nat.lt_trans h1 (by decide +kernel), ?_⟩
  exact Nat.lt_of_lt_of_le (Nat.mul_lt_mul'' h1 hr) (by decide +kernel)
section
attribute [local irreducible] wd
set_option maxHeartbeats 3200000 in
theorem step_walk {a n r s p q : Nat} (kadd : ∀ w, Calls Tryd.prog 48 #[nv a, nv n] w fun e w' => e = .returned (.tuple #[nv s, .int .u64 (cw a n 4 : Int)]) ∧ Below w.heap.size w w')
    (kmul : ∀ w, Calls Tryd.prog 58 #[nv s, nv r] w fun e w' => e = .returned (dv p) ∧ Below w.heap.size w w')
    (kfold : ∀ w, Calls Tryd.prog 59 #[nv p] w fun e w' => e = .returned (nv q) ∧ Below w.heap.size w w') (w : World) :
    Calls Tryd.prog 46 #[nv a, nv n, nv r] w fun e w' => e = .returned (nv q) ∧ Below w.heap.size w w' := by
  have KA := Lib.hid kadd
  have KM := Lib.hid kmul
  have KF := Lib.hid kfold
  clear kadd kmul kfold
  generalize cw a n 4 = cy at *
  have s1 : (w.alloc (A4 a)).heap.size = w.heap.size + 1 := by simp
  have s2 : ((w.alloc (A4 a)).alloc (A4 n)).heap.size = w.heap.size + 2 := by simp
  have s3 : (((w.alloc (A4 a)).alloc (A4 n)).alloc (A4 r)).heap.size = w.heap.size + 3 := by simp
  have oa : O4 ((((w.alloc (A4 a)).alloc (A4 n)).alloc (A4 r)).alloc Z4) w.heap.size w.heap.size a := (((O4.new (w := w) (Nat.le_refl _) a).alloc (A4 n)).alloc (A4 r)).alloc Z4
  have on : O4 ((((w.alloc (A4 a)).alloc (A4 n)).alloc (A4 r)).alloc Z4) w.heap.size (w.alloc (A4 a)).heap.size n := ((O4.new (w := w.alloc (A4 a)) (by omega) n).alloc (A4 r)).alloc Z4
  have or : O4 ((((w.alloc (A4 a)).alloc (A4 n)).alloc (A4 r)).alloc Z4) w.heap.size ((w.alloc (A4 a)).alloc (A4 n)).heap.size r := (O4.new (w := (w.alloc (A4 a)).alloc (A4 n)) (by omega) r).alloc Z4
  have oz : O4 ((((w.alloc (A4 a)).alloc (A4 n)).alloc (A4 r)).alloc Z4) w.heap.size (((w.alloc (A4 a)).alloc (A4 n)).alloc (A4 r)).heap.size 0 := O4.zero (own_Z4 (w := ((w.alloc (A4 a)).alloc (A4 n)).alloc (A4 r)) (B := w.heap.size) (by omega))
  have hc : Below w.heap.size w ((((w.alloc (A4 a)).alloc (A4 n)).alloc (A4 r)).alloc Z4) := ((((Below.refl _ w).alloc (Nat.le_refl _) _).alloc (by omega) _).alloc (by omega) _).alloc (by omega) _
  rw [s1] at on
  rw [s2] at or
  rw [s3] at oz
  unfold nv
  go_enter Tryd.func46, Tryd.ntmps46
  go_upto_region 1 with fail
  obtain ⟨v0, e0⟩ : ∃ v, v = (((w.alloc (A4 a)).alloc (A4 n)).alloc (A4 r)).alloc Z4 := ⟨_, rfl⟩
  obtain ⟨g1, f1⟩ : ∃ g, g = w.heap.size := ⟨_, rfl⟩
  obtain ⟨g2, f2⟩ : ∃ g, g = w.heap.size + 1 := ⟨_, rfl⟩
  obtain ⟨g3, f3⟩ : ∃ g, g = w.heap.size + 1 + 1 := ⟨_, rfl⟩
  obtain ⟨g4, f4⟩ : ∃ g, g = w.heap.size + 1 + 1 + 1 := ⟨_, rfl⟩
  rw [← e0] at oa on or oz hc ⊢
  replace oa : O4 v0 w.heap.size g1 a := by rw [f1]; exact oa
  replace on : O4 v0 w.heap.size g2 n := by rw [f2]; exact on
  replace or : O4 v0 w.heap.size g3 r := by rw [f3]; exact or
  replace oz : O4 v0 w.heap.size g4 0 := by rw [f4]; exact oz
  rw [← f4, ← f3, ← f2, ← f1]
  clear e0 f1 f2 f3 f4 s1 s2 s3
  obtain ⟨a0, a1, a2, a3⟩ := oa.c4
  obtain ⟨b0, b1, b2, b3⟩ := on.c4
  go_wp2_with fail
  go_at_call 48
  refine (KA.out v0).mono ?_
  rintro e v1 ⟨rfl, h0⟩
  clear a0 a1 a2 a3 b0 b1 b2 b3 oa on
  replace or := or.keep h0
  replace oz := oz.keep h0
  replace hc := hc.trans (h0.mono hc.size)
  clear h0
  have os := O4.new (w := v1) (B := w.heap.size) hc.size s
  replace or := or.alloc (A4 s)
  replace oz := oz.alloc (A4 s)
  replace hc := hc.alloc hc.size (A4 s)
  obtain ⟨a0, a1, a2, a3⟩ := os.c4
  obtain ⟨b0, b1, b2, b3⟩ := or.c4
  go_wp2_with fail
  go_at_call 58
  refine (KM.out _).mono ?_
  rintro e v2 ⟨rfl, h0⟩
  clear a0 a1 a2 a3 b0 b1 b2 b3 os or
  replace oz := oz.keep h0
  replace hc := hc.trans (h0.mono hc.size)
  clear h0
  have op := own_A8 (w := v2) (B := w.heap.size) hc.size p
  replace oz := oz.alloc (A8 p)
  replace hc := hc.alloc hc.size (A8 p)
  obtain ⟨p0, p1, p2, p3⟩ : (v2.alloc (A8 p)).cell? ⟨v2.heap.size, 0, none⟩ = some (.int .u64 (wd p 0 : Int)) ∧ (v2.alloc (A8 p)).cell? ⟨v2.heap.size, 1, none⟩ = some (.int .u64 (wd p 1 : Int)) ∧ (v2.alloc (A8 p)).cell? ⟨v2.heap.size, 2, none⟩ = some (.int .u64 (wd p 2 : Int)) ∧ (v2.alloc (A8 p)).cell? ⟨v2.heap.size, 3, none⟩ = some (.int .u64 (wd p 3 : Int)) := ⟨OwnF.cell op (k := 0) (by decide), OwnF.cell op (k := 1) (by decide), OwnF.cell op (k := 2) (by decide), OwnF.cell op (k := 3) (by decide)⟩
  unfold dv
  go_wp2_with fail
  go_at_call 59
  refine (KF.out _).mono ?_
  rintro e v3 ⟨rfl, h0⟩
  clear p0 p1 p2 p3 op
  replace oz := oz.keep h0
  replace hc := hc.trans (h0.mono hc.size)
  clear h0
  obtain ⟨z0, z1, z2, z3⟩ := oz.c4
  obtain ⟨f0, f1, f2, f3⟩ := oz.f4
  obtain ⟨wz, ez, or, hb, _⟩ := oz.out q
  obtain ⟨r0, r1, r2, r3⟩ := or.c4
  go_wp2_with fail
  rw [← ez]
  refine bodyPost_ret (v := nv q) (by simp [results, Tryd.results46, go_sem, r0, r1, r2, r3]) rfl ⟨rfl, hc.trans hb⟩
theorem step_any {a n r : Nat} (ha : a < 1701411834604692317316873037158841057280) (hn : n < 680564733841876926926749214863536422912) (hr : r < 21267647932558653966460912964485513216) (w : World) :
    Calls Tryd.prog 46 #[nv a, nv n, nv r] w fun e w' => e = .returned (nv (foldN ((a + n) * r))) ∧ Below w.heap.size w w' := by
  obtain ⟨h1, h2⟩ := stepN_W4 ha hn hr
  exact step_walk (fun w => add_any a n w) (fun w => mul_any (a + n) r h1 (Nat.lt_trans hr (by decide +kernel)) w) (fun w => fold_any (Nat.lt_trans h2 (by decide +kernel)) w) w
set_option maxHeartbeats 3200000 in
theorem settle_walk {x y b q P : Nat} (hP : nv P = lit4 18446744073709551611 18446744073709551615 3 0) (ksub : ∀ w, Calls Tryd.prog 61 #[nv x, nv P] w fun e w' => e = .returned (.tuple #[nv y, .int .u64 (b : Int)]) ∧ Below w.heap.size w w')
    (kpick : ∀ w, Calls Tryd.prog 62 #[.int .u64 (b : Int), nv y, nv x] w fun e w' => e = .returned (nv q) ∧ Below w.heap.size w w') (w : World) :
    Calls Tryd.prog 49 #[nv x] w fun e w' => e = .returned (nv q) ∧ Below w.heap.size w w' := by
  rw [hP] at ksub
  have KS := Lib.hid ksub
  have KP := Lib.hid kpick
  clear ksub kpick hP
  have oa := (O4.new (w := w) (Nat.le_refl _) x).alloc Z4
  obtain ⟨a0, a1, a2, a3⟩ := oa.c4
  unfold nv
  go_enter Tryd.func49, Tryd.ntmps49
  go_wp2_with fail
  go_at_call 61
  refine (KS.out _).mono ?_
  rintro e v1 ⟨rfl, h0⟩
  obtain ⟨oz, hc⟩ := zres2 h0
  replace oa := oa.keep h0
  clear a0 a1 a2 a3 h0
  have oy := O4.new (w := v1) (B := w.heap.size) hc.size y
  replace oa := oa.alloc (A4 y)
  replace oz := oz.alloc (A4 y)
  replace hc := hc.alloc hc.size (A4 y)
  obtain ⟨a0, a1, a2, a3⟩ := oa.c4
  obtain ⟨b0, b1, b2, b3⟩ := oy.c4
  go_wp2_with fail
  go_at_call 62
  refine (KP.out _).mono ?_
  rintro e v2 ⟨rfl, h0⟩
  clear a0 a1 a2 a3 b0 b1 b2 b3 oa oy
  replace oz := oz.keep h0
  replace hc := hc.trans (h0.mono hc.size)
  clear h0
  obtain ⟨z0, z1, z2, z3⟩ := oz.c4
  obtain ⟨f0, f1, f2, f3⟩ := oz.f4
  obtain ⟨wz, ez, or, hb, _⟩ := oz.out q
  obtain ⟨r0, r1, r2, r3⟩ := or.c4
  go_wp2_with fail
  rw [← ez]
  refine bodyPost_ret (v := nv q) (by simp [results, Tryd.results49, go_sem, r0, r1, r2, r3]) rfl ⟨rfl, hc.trans hb⟩
theorem settle_any {x : Nat} (hx : x < 2 * P130) (w : World) :
    Calls Tryd.prog 49 #[nv x] w fun e w' => e = .returned (nv (x % P130)) ∧ Below w.heap.size w w' := by
  have hxW : x < W4 := Nat.lt_trans hx (by decide +kernel)
  refine settle_walk (y := x + W4 - P130) (b := bw x P130 4) l_p130 (fun w => sub_any x P130 p130_W4 w) (fun w => ?_) w
  have h := pick_any (bw x P130 4) (x + W4 - P130) x (Nat.lt_of_le_of_lt (bw_le _ _ _) (by decide)) w
  have e : nv (if bw x P130 4 = 0 then x + W4 - P130 else x) = nv (x % P130) := by
    rw [bw_four hxW p130_W4]
    by_cases hlt : x < P130
    · rw [if_pos hlt, if_neg (by decide), Nat.mod_eq_of_lt hlt]
    · rw [if_neg hlt, if_pos rfl, show x % P130 = x - P130 by rw [Nat.mod_eq_sub_mod (by omega), Nat.mod_eq_of_lt (by omega)], ← nv_mod, show x + W4 - P130 = x - P130 + W4 by have := p130_W4; omega, Nat.add_mod_right, nv_mod]
  rw [e] at h
  exact h
end
end Go.Proofs.YtmhfkabpfkoocaaDoor
namespace Go.Proofs.YtmhfkabpfkoocaaDoor
open Go Go.RowKit
set_option maxRecDepth 20000
theorem ctag_bad {A0 A1 : Option Addr} {n m c0 c1 : Nat} (hn : n ≠ 32) (w : World) :
    Calls Tryd.prog 30 #[.slice A0 n c0, .slice A1 m c1] w fun e w' => e = .returned (.tuple #[.slice none 0 0, .int .i64 1]) ∧ Below w.heap.size w w' := by
  have g2 : ((n : Int) != 32) = true := by simp; omega
  go_enter Tryd.func30, Tryd.ntmps30
  go_wp2_with fail
  go_returns
  exact ⟨rfl, Below.refl _ _⟩
theorem cut_r_lt (bs : List UInt8) : vb (cutL bs) < 21267647932558653966460912964485513216 := by
  have h15 : nth (cutL bs) 15 < 16 := by rw [cutL_nth bs (by decide)]; unfold cutn; rw [if_pos (by decide)]; omega
  have h : vb (cutL bs) = vk (cutL bs) 15 + 256 ^ 15 * nth (cutL bs) 15 := by
    unfold vb
    rw [cutL_len, show (16 : Nat) = 15 + 1 from rfl, vk, Nat.mul_comm]
  have h2 := vk_lt (cutL bs) 15
  rw [h]
  simp only [Nat.reducePow] at *
  omega
theorem pnum_129 (bs : List UInt8) (k : Nat) : pnum bs k < 680564733841876926926749214863536422912 := by
  have hl := blkL_le bs k
  have e : pnum bs k = vk (blkL bs k ++ [1]) (blkL bs k).length + 256 ^ (blkL bs k).length * 1 := by
    unfold pnum vb
    have hlen : (blkL bs k ++ [1]).length = (blkL bs k).length + 1 := by simp
    rw [hlen, vk, Nat.mul_comm]
    have : nth (blkL bs k ++ [1]) (blkL bs k).length = 1 := by
      unfold nth
      rw [List.getElem?_append_right (Nat.le_refl _), Nat.sub_self]
      rfl
    rw [this]
  have h1 := vk_lt (blkL bs k ++ [1]) (blkL bs k).length
  have h2 : 256 ^ (blkL bs k).length ≤ 256 ^ 16 := Nat.pow_le_pow_right (by decide) hl
  have h3 : (256 : Nat) ^ 16 = 340282366920938463463374607431768211456 := by decide +kernel
  rw [e]
  omega
theorem pa_fold {x r n a : Nat} (h : x % P130 = a) : foldN ((x + n) * r) % P130 = (a + n) * r % P130 := by
  rw [foldN_mod, ← h, Nat.mul_mod, ← Nat.mod_add_mod x, ← Nat.mul_mod]
theorem p130_two : 1701411834604692317316873037158841057280 < 2 * P130 := by decide +kernel
section
attribute [local irreducible] pa pnum cutL P130 vb blkL wd foldN rl setA
set_option maxHeartbeats 6400000 in
theorem ctag_any {key bs : List UInt8} (hk : key.length = 32) {A0 A1 : Option Addr} {k0 c1 : Nat} (w : World) (hG : GlbP w) (r0 : Rd w w.heap.size A0 k0 key) (r1 : Rd w w.heap.size A1 c1 bs) :
    Calls Tryd.prog 30 #[.slice A0 32 k0, .slice A1 bs.length c1] w fun e w' => ∃ A c, e = .returned (.tuple #[.slice A 16 c, .int .i64 0]) ∧ Own w' w.heap.size 5 A c (tagN key bs) ∧ Below w.heap.size w w' := by
  obtain ⟨R, eR⟩ : ∃ R, R = vb (cutL (key.take 16)) := ⟨_, rfl⟩
  obtain ⟨S, eS⟩ : ∃ S, S = vb (key.drop 16) := ⟨_, rfl⟩
  have hT : tagN key bs = gen (bf (pa R bs (nblk16 bs.length) + S)) 16 := by rw [eR, eS]; rfl
  rw [hT]
  have hR := cut_r_lt (key.take 16)
  rw [← eR] at hR
  have hkt : (key.take 16).length = 16 := by rw [List.length_take]; omega
  have hkd : (key.drop 16).length = 16 := by rw [List.length_drop]; omega
  obtain ⟨L, hL⟩ : ∃ L, L = bs.length := ⟨_, rfl⟩
  rw [← hL]
  obtain ⟨nb, enb⟩ : ∃ nb, nb = nblk16 L := ⟨_, rfl⟩
  rw [← enb]
  have HNB := Lib.hid (show 16 * nb < L + 16 ∧ L ≤ 16 * nb by rw [enb]; unfold nblk16; omega)
  have HL := Lib.hid hL
  have HK := Lib.hid hk
  have HR := Lib.hid eR
  have HS := Lib.hid eS
  have HKT := Lib.hid hkt
  have HKD := Lib.hid hkd
  have HRL := Lib.hid hR
  clear hL hk eR eS hT hkt hkd hR enb
  obtain ⟨b0, o0, rfl, hk0, _, rh, rt⟩ := p_half r0 HK.out
  clear r0
  have g16 : 16 ≤ k0 := by omega
  have gne : ¬ k0 = 16 := by omega
  clear hk0
  go_enter Tryd.func30, Tryd.ntmps30
  go_wp2_with fail
  go_at_call 44
  refine (ccut_any HKT.out w hG rh).mono ?_
  rintro e v1 ⟨Ac, cc, rfl, oc, hc⟩
  clear rh hG
  replace rt := rt.keep hc
  replace r1 := r1.keep hc
  go_wp2_with fail
  go_at_call 45
  refine (from_len v1 (cutL_len _) oc.rd (Nat.le_refl _) (by decide)).mono ?_
  rintro e v2 ⟨rfl, h0⟩
  rw [← HR.out]
  replace rt := rt.keep (h0.mono hc.size)
  replace r1 := r1.keep (h0.mono hc.size)
  replace hc := hc.trans (h0.mono hc.size)
  clear oc h0
  have oR := O4.new (w := v2) (B := w.heap.size) hc.size R
  have h0 := (Below.refl _ v2).alloc (Nat.le_refl _) (A4 R)
  replace rt := rt.keep (h0.mono hc.size)
  replace r1 := r1.keep (h0.mono hc.size)
  replace hc := hc.trans (h0.mono hc.size)
  clear h0
  go_upto_region 5 with fail
  obtain ⟨v3, e3⟩ : ∃ v, v = v2.alloc (A4 R) := ⟨_, rfl⟩
  obtain ⟨gR, f3⟩ : ∃ g, g = v2.heap.size := ⟨_, rfl⟩
  rw [← e3] at oR rt r1 hc ⊢
  rw [← f3] at oR ⊢
  clear e3 f3
  go_wp2_with fail
  go_at_call 45
  refine (from_len v3 HKD.out rt hc.size (by decide)).mono ?_
  rintro e v4 ⟨rfl, h0⟩
  rw [← HS.out]
  replace oR := oR.keep h0
  replace r1 := r1.keep (h0.mono hc.size)
  replace hc := hc.trans (h0.mono hc.size)
  clear rt h0 g16 gne
  have hltR := O4.lt oR
  have s1 : (v4.alloc (A4 S)).heap.size = v4.heap.size + 1 := by simp
  have oS := (O4.new (w := v4) (B := w.heap.size) hc.size S).alloc Z4
  replace oR := (oR.alloc (A4 S)).alloc Z4
  have oA : O4 ((v4.alloc (A4 S)).alloc Z4) w.heap.size (v4.alloc (A4 S)).heap.size 0 := O4.zero (own_Z4 (w := v4.alloc (A4 S)) (B := w.heap.size) (by have := hc.size; omega))
  have h0 : Below v4.heap.size v4 ((v4.alloc (A4 S)).alloc Z4) := ((Below.refl _ v4).alloc (Nat.le_refl _) _).alloc (by omega) _
  replace r1 := r1.keep (h0.mono hc.size)
  replace hc := hc.trans (h0.mono hc.size)
  rw [s1] at oA
  clear h0 s1
  go_wp2_with fail
  obtain ⟨v5, e5⟩ : ∃ v, v = (v4.alloc (A4 S)).alloc Z4 := ⟨_, rfl⟩
  obtain ⟨gS, fS⟩ : ∃ g, g = v4.heap.size := ⟨_, rfl⟩
  obtain ⟨gA, fA⟩ : ∃ g, g = v4.heap.size + 1 := ⟨_, rfl⟩
  rw [← e5] at oR oS oA r1 hc ⊢
  rw [← fA] at oA ⊢
  rw [← fS] at oS ⊢
  have nRA := Lib.hid (show gR ≠ gA by omega)
  have nSA := Lib.hid (show gS ≠ gA by omega)
  clear e5 fS fA hltR
  go_loopw [1] (fun v wr => ∃ k x : Nat, k ≤ nb ∧ (∃ A c, v = .slice A (L - 16 * k) c ∧ Rd wr w.heap.size A c (bs.drop (16 * k))) ∧ O4 wr w.heap.size gR R ∧ O4 wr w.heap.size gS S ∧ O4 wr w.heap.size gA x ∧ x % P130 = pa R bs k ∧ x < 1701411834604692317316873037158841057280 ∧ Below w.heap.size w wr)
    (fun v _ => lenOf v)
  case atStart => exact ⟨0, 0, by omega, ⟨_, _, rfl, r1⟩, oR, oS, oA, by rw [pa_zero]; exact Nat.zero_mod _, by decide, hc⟩
  case round =>
    clear oR oS oA r1 hc
    obtain ⟨k, x, hk, ⟨A, c, rfl, rb⟩, oR, oS, oA, hxm, hxl, hc⟩ := hrel
    obtain ⟨q, eq⟩ : ∃ q, q = L - 16 * k := ⟨_, rfl⟩
    rw [← eq]
    by_cases hlt : 0 < q
    · have g1 : (0 : Int) < (q : Int) := by omega
      obtain ⟨n, en⟩ : ∃ n, n = min q 16 := ⟨_, rfl⟩
      have hmin : (if (16 : Int) < (q : Int) then (16 : Int) else (q : Int)) = (n : Int) := by rw [en]; split <;> omega
      have hdl : (bs.drop (16 * k)).length = q := by rw [List.length_drop, ← HL.out]; exact eq.symm
      have hbl : (bs.drop (16 * k)).take n = blkL bs k := by
        unfold blkL
        by_cases h : 16 ≤ q
        · rw [show n = 16 by omega]
        · rw [List.take_of_length_le (by omega), List.take_of_length_le (by omega)]
      have hbll : (blkL bs k).length = n := by rw [← hbl, List.length_take]; omega
      have hb16 := blkL_le bs k
      have KN := Lib.hid (fun wz (hz : Below wr.heap.size wr wz) => show Calls Tryd.prog 47 #[.slice (subA A c 0) n c] wz fun e w' => e = .returned (nv (pnum bs k)) ∧ Below wz.heap.size wz w' by
        have h2 := (rb.keep (hz.mono hc.size)).sub_ (l := 0) (n := n) (by omega)
        rw [List.drop_zero, hbl, Nat.sub_zero] at h2
        have h3 := number_any (by omega) wz (h2.mono (Nat.le_trans hc.size hz.size))
        rw [hbll, pnum_eq] at h3
        exact h3)
      have KS := Lib.hid (fun wz => step_any hxl (pnum_129 bs k) HRL.out wz)
      have hz1 := @pa_fold x R (pnum bs k) _ hxm
      rw [pa_next] at hz1
      have hz2 := foldN_lt (stepN_W4 hxl (pnum_129 bs k) HRL.out).2
      have hcap := rb.cap
      obtain ⟨y, ey⟩ : ∃ y, y = pnum bs k := ⟨_, rfl⟩
      rw [← ey] at KN KS hz1 hz2
      obtain ⟨z, ez⟩ : ∃ z, z = foldN ((x + y) * R) := ⟨_, rfl⟩
      rw [← ez] at KS hz1 hz2
      have HZ1 := Lib.hid hz1
      have HZ2 := Lib.hid hz2
      have HA := Lib.hid (keep4 oA)
      have HB := Lib.hid (keep4 oR)
      have HC := Lib.hid (show n ≤ c by omega)
      have HQ := Lib.hid (show n ≤ q by omega)
      have HX := Lib.hid (show q - n = L - 16 * (k + 1) ∧ k + 1 ≤ nb ∧ q - n < q by have := HNB.out; omega)
      have HDR := Lib.hid (show (bs.drop (16 * k)).drop n = bs.drop (16 * (k + 1)) by
        rw [List.drop_drop]
        by_cases h : 16 ≤ q
        · rw [show 16 * k + n = 16 * (k + 1) by omega]
        · rw [List.drop_eq_nil_of_le (by have := HL.out; omega), List.drop_eq_nil_of_le (by have := HL.out; omega)])
      have HRB := Lib.hid (fun wz (hz : Below w.heap.size wr wz) => (rb.keep hz).drop_ (l := n) (by omega))
      have HO := Lib.hid (And.intro oR (And.intro oS oA))
      clear en hdl hbl hbll hb16 ey ez hz1 hz2 hcap rb oR oS oA hxm hxl eq
      go_upto_region 9 with fail
      refine wp_region_inv 7 [43, 44, 45, 46, 47, 48, 49] [.val (nv x), .val (.slice A q c), .val (.int .i64 (n : Int)), .val (.slice (subA A c 0) n c), .val (nv y), .val (nv R), .val (nv z)] (fun wz => Below wr.heap.size wr wz) (by kernel_rfl) (by kernel_rfl) (fun wz wz' hz hb => hz.trans (hb.mono hz.size)) ((Below.refl _ _).drew) (fun u => by simp only [puts, List.foldl_cons, List.foldl_nil]; go_simp; exact rfl) ?_ ?_
      · simp only [List.take_succ_cons, List.take_zero]
        refine Obs.cons (fun u w hS hd => ?_) ?_
        · exact Gv.run (nv x) rfl (by obtain ⟨k0, k1, k2, k3⟩ := HA.out w hS; go_simp) rfl
        refine Obs.cons (fun u w hS hd => ?_) ?_
        · exact Gv.run (.slice A q c) rfl (by go_simp) rfl
        refine Obs.cons (fun u w hS hd => ?_) ?_
        · exact Gv.run (.int .i64 (n : Int)) rfl (by go_simp) rfl
        refine Obs.cons (fun u w hS hd => ?_) ?_
        · have d44 : u 44 = .slice A q c := dep hd 1 rfl
          have d45 : u 45 = .int .i64 (n : Int) := dep hd 2 rfl
          rw [d44, d45]
          exact Gv.run (.slice (subA A c 0) n c) rfl (p_slice_op_hi rfl rfl rfl HC.out) rfl
        refine Obs.cons (fun u w hS hd => ?_) ?_
        · have d46 : u 46 = .slice (subA A c 0) n c := dep hd 3 rfl
          rw [d46]
          refine Gv.call 47 #[.slice (subA A c 0) n c] rfl (by go_simp) ((KN.out w hS).mono ?_)
          rintro e w' ⟨rfl, hb⟩
          exact ⟨_, rfl, rfl, hb⟩
        refine Obs.cons (fun u w hS hd => ?_) ?_
        · exact Gv.run (nv R) rfl (by obtain ⟨k0, k1, k2, k3⟩ := HB.out w hS; go_simp) rfl
        refine Obs.cons (fun u w hS hd => ?_) ?_
        · have d43 : u 43 = nv x := dep hd 0 rfl
          have d47 : u 47 = nv y := dep hd 4 rfl
          have d48 : u 48 = nv R := dep hd 5 rfl
          rw [d43, d47, d48]
          refine Gv.call 46 #[nv x, nv y, nv R] rfl (by go_simp) ((KS.out w).mono ?_)
          rintro e w' ⟨rfl, hb⟩
          exact ⟨_, rfl, rfl, hb⟩
        exact Obs.nil
      · intro u v2 hS hd
        have d49 : u 49 = nv z := hd 6 (by decide)
        rw [d49]
        obtain ⟨oR, oS, oA⟩ := HO.out
        replace oR := oR.keep hS
        replace oS := oS.keep hS
        replace oA := oA.keep hS
        obtain ⟨a0, a1, a2, a3⟩ := oA.c4
        obtain ⟨f0, f1, f2, f3⟩ := oA.f4
        obtain ⟨wz, ez, oz, hb, _, hoth⟩ := oA.in_ z
        replace oR := hoth _ _ _ nRA.out oR
        replace oS := hoth _ _ _ nSA.out oS
        have hcz := (hc.trans (hS.mono hc.size)).trans hb
        have hrz := HRB.out wz ((hS.mono hc.size).trans hb)
        rw [HDR.out] at hrz
        have HOZ := Lib.hid (And.intro oz (And.intro oR (And.intro oS (And.intro hcz hrz))))
        clear hoth oz oR oS hcz hb hc oA hrz
        simp only [List.drop_succ_cons, List.drop_zero]
        go_wp2_with ((with_reducible refine slice_arm_lo n HQ.out ?_ ?_ ?_); rfl; rfl)
        rw [← ez]
        go_roundw
        case rel => exact ⟨k + 1, z, HX.out.2.1, ⟨_, _, by rw [HX.out.1]; unfold subA; rfl, HOZ.out.2.2.2.2⟩, HOZ.out.2.1, HOZ.out.2.2.1, HOZ.out.1, HZ1.out, HZ2.out, HOZ.out.2.2.2.1⟩
        case measure => have := HX.out.2.2; simp [lenOf]; omega
    · obtain rfl : k = nb := by have := HNB.out; omega
      obtain rfl : q = 0 := by omega
      have KSE := Lib.hid (fun wz => settle_any (Nat.lt_trans hxl p130_two) wz)
      rw [hxm] at KSE
      obtain ⟨a, ea⟩ : ∃ a, a = pa R bs k := ⟨_, rfl⟩
      rw [← ea] at KSE
      have KAD := Lib.hid (fun wz => add_any a S wz)
      generalize cw a S 4 = cy at KAD
      obtain ⟨s, es⟩ : ∃ s, s = a + S := ⟨_, rfl⟩
      rw [← es] at KAD
      have HSR := Lib.hid (show gen (bf (pa R bs k + S)) 16 = gen (bf s) 16 by rw [es, ea])
      have HH := Lib.hid (keep44 oA oS)
      have hs := hc.size
      clear hxm hxl ea es rb oR oS oA eq hlt hk
      go_upto_region 11 with fail
      go_cut [14, 15] from 53 to 59 (fun p14 c15 wx => ∃ g, p14 = .pointer (some ⟨g, 0, none⟩) ∧ O4 wx w.heap.size g s ∧ Below wr.heap.size wr wx)
      case first =>
        obtain ⟨s0, s1, s2, s3, s4, s5, s6, s7⟩ := HH.out wr (Below.refl _ _)
        have hd : Below wr.heap.size wr wr.drew := (Below.refl _ wr).drew
        go_region_held3 (fun wz => wz.cell? ⟨gA, 0, none⟩ = some (.int .u64 (wd x 0 : Int)) ∧ wz.cell? ⟨gA, 1, none⟩ = some (.int .u64 (wd x 1 : Int)) ∧ wz.cell? ⟨gA, 2, none⟩ = some (.int .u64 (wd x 2 : Int)) ∧ wz.cell? ⟨gA, 3, none⟩ = some (.int .u64 (wd x 3 : Int)) ∧ wz.cell? ⟨gS, 0, none⟩ = some (.int .u64 (wd S 0 : Int)) ∧ wz.cell? ⟨gS, 1, none⟩ = some (.int .u64 (wd S 1 : Int)) ∧ wz.cell? ⟨gS, 2, none⟩ = some (.int .u64 (wd S 2 : Int)) ∧ wz.cell? ⟨gS, 3, none⟩ = some (.int .u64 (wd S 3 : Int)))
          (first | exact HH.out _ hd | exact HH.out _ (hd.alloc hd.size _) | exact HH.out _ (by repeat (first | exact hd | (refine Below.setCell ?_ (by first | omega | (simp; done) | (simp; omega)) _) | (refine Below.alloc ?_ (by first | omega | (simp; done) | (simp; omega)) _) | refine Below.drew ?_)))
          (first | (go_at_call 49; (with_reducible refine (KSE.out _).mono ?_); rintro e wp ⟨rfl, h1⟩; (first | (replace ob := ob.keep h1) | (have ob := keepZd h1; have hg := Nat.le_refl wr.heap.size) | (have ob := keepZ h1; have hg := hd.size) | skip); (first | (replace hd := (hd.alloc hd.size Z4).trans (h1.mono (Nat.le_trans hd.size (by simp)))) | (replace hd := hd.trans (h1.mono hd.size))); clear h1) | (go_at_call 48; (with_reducible refine (KAD.out _).mono ?_); rintro e wn ⟨rfl, h1⟩; (first | (replace ob := ob.keep h1) | (have ob := keepZd h1; have hg := Nat.le_refl wr.heap.size) | (have ob := keepZ h1; have hg := hd.size) | skip); (first | (replace hd := (hd.alloc hd.size Z4).trans (h1.mono (Nat.le_trans hd.size (by simp)))) | (replace hd := hd.trans (h1.mono hd.size))); clear h1; (try (obtain ⟨o0, o1, o2, o3⟩ := ob.c4; obtain ⟨q0, q1, q2, q3⟩ := ob.f4))))
        all_goals
          go_wp2_with fail
          go_meet
          first
            | exact ⟨_, rfl, O4.new (Nat.le_trans hs hd.size) s, hd.alloc hd.size _⟩
            | exact ⟨_, rfl, (ob.put s).mono (Nat.le_trans hs hg), hd.trans ((ob.below s).mono hg)⟩
      case rest =>
        obtain ⟨g, rfl, os, hd⟩ := hcut
        replace hc := hc.trans (hd.mono hs)
        obtain ⟨i0, hi, hz0, hz1, hz2⟩ := info_parts infoByte
        have hmk := run_mk (P := Tryd.prog) 22 5 i0 Tryd.underlying22 hi hz0 hz1 hz2 (l := 16) (n := 16) rfl (by decide)
        have om : OwnF (wc.alloc (.cells (madeCells #[.int .u8 0] 16) 5)) w.heap.size 5 (some ⟨wc.heap.size, 0, none⟩) 16 16 (fun _ => .int .u8 0) := OwnF.made 5 (.int .u8 0) hc.size (by decide)
        have h0 : Below wc.heap.size wc (wc.alloc (.cells (madeCells #[.int .u8 0] 16) 5)) := (Below.refl _ wc).alloc (Nat.le_refl _) _
        replace os := os.keep h0
        replace hc := hc.trans (h0.mono hc.size)
        clear h0 hd hs KSE KAD HH
        go_upto_region 13 with fail
        obtain ⟨v6, e6⟩ : ∃ v, v = wc.alloc (.cells (madeCells #[.int .u8 0] 16) 5) := ⟨_, rfl⟩
        obtain ⟨gO, fO⟩ : ∃ g, g = wc.heap.size := ⟨_, rfl⟩
        rw [← e6] at om os hc ⊢
        rw [← fO] at om ⊢
        clear e6 fO hmk
        obtain ⟨d0, d1, d2, d3⟩ := os.c4
        go_wp2_with fail
        go_at_call 50
        refine (bytes_any s v6).mono ?_
        rintro e v7 ⟨A7, c7, rfl, o7, h0⟩
        replace om := om.keep h0
        replace hc := hc.trans (h0.mono hc.size)
        clear h0 d0 d1 d2 d3 os
        have hcp := fun (ops : Array Oper) (rest2 : List Oper) (a : Act) (Q : Exit → Act → World → Prop) (d s : Operand) (dst : Option Nat) (tp : TypeId) (ps : String) (af : Array Edge) => copy_to (ops := ops) (rest := rest2) (a := a) (Q := Q) (d := d) (s := s) (dst := dst) (tp := tp) (ps := ps) (af := af) (off := 0) (dl := 16) (dc := 16) (m := 16) om o7.rd (by rw [gen_length]; rfl) (by decide)
        rw [gen_length] at hcp
        have HCP := Lib.hid hcp
        clear hcp
        have oc := av_put om 0 16 (bvf (gen (bf s) 32))
        have hcz := hc.trans ((av_only v7 gO 0 16 (bvf (gen (bf s) 32))).below (OwnF.ge om))
        have HO := Lib.hid (And.intro oc hcz)
        clear oc hcz om hc
        go_wp2_with ((refine HCP.out _ _ _ _ _ _ _ _ _ _ ?_ ?_ ?_); rfl; rfl)
        go_returns
        refine ⟨_, _, rfl, ?_, HO.out.2⟩
        rw [HSR.out]
        exact p_ofF HO.out.1 (gen_length _ _) fun k hk => by unfold fput bvf; rw [if_pos (by omega), nth_gen (by omega), nth_gen (by omega), Nat.sub_zero]
end
end Go.Proofs.YtmhfkabpfkoocaaDoor
