/-
  The document's numbers, Small, Great, Sum256, Sum512 (layer 6). By an AI agent. Turning by halves is turning at once (layer 6). Of no program. By an AI agent. Sums piece by piece: what stands behind whole blocks, and what is padded there (layer 6). Of no program. By an AI agent. The program's tables in memory: those of SHA-512 alone (layer 9). By an AI agent.
-/
import Derived.Test.YtkbkalhcdbklkaaGreatDoorN11
import Derived.Test.YtkbkalhcdbklkaaGreatDoorJ04
import Derived.Test.YtkbkalhcdbklkaaGreatDoorJ05
import Derived.Test.YtkbkalhcdbklkaaGreatDoorJ02
namespace Go.Proofs.YtkbkalhcdbklkaaGreatDoor
open Go Go.RowKit
def numv (e bits p : Nat) : Nat := if bits = 32 then gr p e 80 % 18446744073709551616 / 4294967296 else gr p e 80 % 18446744073709551616
theorem numv_lt (e p : Nat) {bits : Nat} (hb : bits = 32 ∨ bits = 64) : numv e bits p < 2 ^ bits := by
  unfold numv
  rcases hb with rfl | rfl
  · rw [if_pos rfl]; omega
  · rw [if_neg (by decide)]; omega
theorem map_at (L : List Nat) (f : Nat → Nat) {k : Nat} (h : k < L.length) : (L.map f).getD k 0 = f (L.getD k 0) := by
  simp [List.getD, h]
theorem pr_small {s k : Nat} (hs : s ≤ 1000) (hk : k < (pr s).length) : (pr s).getD k 0 < 65536 := by
  have := pr_mem s ((pr s).getD k 0) (by rw [List.getD_eq_getElem?_getD, List.getElem?_eq_getElem hk]; exact List.getElem_mem hk)
  omega
attribute [local irreducible] gr pr
set_option maxRecDepth 20000
set_option maxHeartbeats 1600000 in
theorem numbers_any {n s e bits : Nat} (hs : (pr s).length = n) (hlt : ∀ t, t < s → (pr t).length < n) (hs1 : s ≤ 1000) (he : e = 2 ∨ e = 3) (hb : bits = 32 ∨ bits = 64) (w : World) :
    Calls Tryz.prog 123 #[.int .i64 (n : Int), .int .i64 (e : Int), .int .i64 (bits : Int)] w fun en w' => ∃ A c, en = .returned (.slice A n c) ∧ OwnF w' w.heap.size 33 A c n (uv ((pr s).map (numv e bits))) ∧ Below w.heap.size w w' := by
  obtain ⟨i0, hi, hz0, hz1, hz2⟩ := info_parts infoU64
  have KP := Lib.hid (fun w => primes_any hs hlt hs1 w)
  have hps := fun k hk => pr_small (s := s) (k := k) hs1 hk
  rw [hs] at hps
  have HPS := Lib.hid hps
  have hmp : ∀ k, k < n → ((pr s).map (numv e bits)).getD k 0 = numv e bits ((pr s).getD k 0) := fun k hk => map_at _ _ (by omega)
  have HMP := Lib.hid hmp
  have hn1 : n ≤ 1000 := by have := pr_len_le s; omega
  clear hs hlt hps hmp
  go_enter Tryz.func123, Tryz.ntmps123
  go_wp2_with fail
  go_at_call 140
  refine (KP.out _).mono ?_
  rintro en v1 ⟨A1, c1, rfl, o1, hc⟩
  have r1 := o1.rd
  clear o1 KP
  go_wp2_with fail
  go_loopw [7, 9] (fun v i wr => ∃ k : Nat, k ≤ n ∧ i = .int .i64 (k : Int) ∧ (∃ A c, v = .slice A k c ∧ OwnF wr v1.heap.size 33 A c k (uv ((pr s).map (numv e bits)))) ∧ Below v1.heap.size v1 wr)
    (fun _ i _ => n - (intOf i).toNat)
  case atStart => exact ⟨0, by omega, rfl, ⟨none, 0, rfl, OwnF.nothing _ _ _ _⟩, Below.refl _ _⟩
  case round =>
    obtain ⟨k, hk, rfl, ⟨A, c, rfl, os⟩, hb1⟩ := hrel
    have hws : v1.heap.size ≤ wr.heap.size := hb1.size
    by_cases hkn : k < n
    · have g1 : (k : Int) < (n : Int) := by omega
      obtain ⟨b1, o1, rfl, _, cc⟩ := (r1.keep hb1).at_ hkn
      unfold iv at cc
      have hp := HPS.out k hkn
      have hv := HMP.out k hkn
      generalize (pr s).getD k 0 = p at *
      have KR := Lib.hid (fun w => root_any hp he w)
      have hv2 : Value.int .u64 ((numv e bits p : Nat) : Int) = uv ((pr s).map (numv e bits)) k := by unfold uv; rw [hv]
      have HV := Lib.hid hv2
      have hnb := numv_lt e p hb
      have hnum : numv e bits p = if bits = 32 then gr p e 80 % 18446744073709551616 / 4294967296 else gr p e 80 % 18446744073709551616 := rfl
      generalize gr p e 80 % 18446744073709551616 = x at *
      clear hv hv2 hp
      go_wp2_with fail
      go_at_call 141
      refine (KR.out _).mono ?_
      rintro en w2 ⟨rfl, h0⟩
      have os2 := OwnF.keep os (h0.mono (Nat.le_refl _))
      have hb2 := hb1.trans (h0.mono hb1.size)
      have hws2 := Nat.le_trans hws h0.size
      clear KR os
      by_cases h32 : bits = 32
      · rw [if_pos h32] at hnum
        have g3 : ((bits : Int) == 32) = true := by rw [h32]; rfl
        have hx : (x : Int) / 4294967296 = (numv e bits p : Int) := by omega
        have hx' : (x : Int).tdiv 4294967296 = (numv e bits p : Int) := by rw [Int.tdiv_eq_ediv_of_nonneg (by omega), hx]
        have hxw : IntKind.u64.wrap (numv e bits p : Int) = (numv e bits p : Int) := by
          rw [h32] at hnb ⊢; rw [IntKind.wrap_u64]; omega
        generalize numv e bits p = r at *
        clear hnum h32 hnb
        go_wp2_with (at_builtin; refine wpList_appF1 _ rfl (.tmp 29) (.tmp 31) _ rfl v1.heap.size 33 i0 _ Tryz.underlying117 hi hz0 hz1 hz2 (by decide) rfl rfl os2 HV.out rfl rfl (by omega) (by omega) hws2 ?_; intro A' c' w' ho' hb')
        exact ⟨⟨k + 1, by omega, by go_num, ⟨A', c', rfl, ho'⟩, hb2.trans hb'⟩, by simp [intOf]; omega⟩
      · rw [if_neg h32] at hnum
        have g3 : ((bits : Int) == 32) = false := by simp; omega
        rw [hnum] at HV
        clear h32 hnb
        go_wp2_with (at_builtin; refine wpList_appF1 _ rfl (.tmp 29) (.tmp 31) _ rfl v1.heap.size 33 i0 _ Tryz.underlying117 hi hz0 hz1 hz2 (by decide) rfl rfl os2 HV.out rfl rfl (by omega) (by omega) hws2 ?_; intro A' c' w' ho' hb')
        exact ⟨⟨k + 1, by omega, by go_num, ⟨A', c', rfl, ho'⟩, hb2.trans hb'⟩, by simp [intOf]; omega⟩
    · obtain rfl : k = n := by omega
      have g1 : ¬ (k : Int) < (k : Int) := by omega
      go_wp2_with fail
      go_ret
      exact ⟨A, c, rfl, os.mono hc.size, hc.trans (hb1.mono hc.size)⟩
def smallS : Ks := ⟨32, 64, (2, 13, 22), (6, 11, 25), (7, 18, 3), (17, 19, 10), (pr 310).map (numv 3 32), (pr 18).map (numv 2 32)⟩
def greatS : Ks := ⟨64, 80, (28, 34, 39), (14, 18, 41), (1, 8, 7), (19, 61, 6), (pr 408).map (numv 3 64), (pr 18).map (numv 2 64)⟩
theorem map_lt (L : List Nat) (f : Nat → Nat) {b : Nat} (hf : ∀ p, f p < b) (hb : 0 < b) (k : Nat) : (L.map f).getD k 0 < b := by
  by_cases h : k < L.length
  · rw [map_at L f h]; exact hf _
  · simp [List.getD, Nat.le_of_not_lt h, hb]
theorem len80 : (pr 408).length = 80 ∧ ∀ t, t < 408 → (pr t).length < 80 := by decide +kernel
theorem len8 : (pr 18).length = 8 ∧ ∀ t, t < 18 → (pr t).length < 8 := by decide +kernel
theorem greatOk : Kok greatS := ⟨.inr rfl, by decide, by decide, by decide, by decide, by decide, ⟨by rw [show greatS.keys = (pr 408).map (numv 3 64) from rfl, List.length_map]; exact len80.1, map_lt _ _ (fun p => numv_lt 3 p (.inr rfl)) (by decide)⟩, ⟨by rw [show greatS.first = (pr 18).map (numv 2 64) from rfl, List.length_map]; exact len8.1, map_lt _ _ (fun p => numv_lt 2 p (.inr rfl)) (by decide)⟩⟩
end Go.Proofs.YtkbkalhcdbklkaaGreatDoor
namespace Go.Proofs.YtkbkalhcdbklkaaGreatDoor
theorem half_add (a c : Nat) : (a + 2 * c) / 2 = a / 2 + c ∧ (a + 2 * c) % 2 = a % 2 := by omega
theorem rotN_is {b x : Nat} : ∀ n, n ≤ b → rotN b x n = x / 2 ^ n + x % 2 ^ n * 2 ^ (b - n)
  | 0, _ => by rw [rotN_zero]; simp [Nat.mod_one]
  | n + 1, h => by
    rw [rotN_hi, rotN_is n (by omega)]
    obtain ⟨c, hc⟩ : ∃ c, b - n = c + 1 := ⟨b - n - 1, by omega⟩
    have e1 : b - (n + 1) = c := by omega
    have e2 : b - 1 = n + c := by omega
    have hh : hi2 b = 2 ^ n * 2 ^ c := by unfold hi2; rw [e2, Nat.pow_add]
    rw [hh, hc, e1, Nat.pow_succ 2 c]
    have e3 : x % 2 ^ n * (2 ^ c * 2) = 2 * (x % 2 ^ n * 2 ^ c) := by rw [← Nat.mul_assoc, Nat.mul_comm]
    rw [e3, (half_add _ _).1, (half_add _ _).2, Nat.div_div_eq_div_mul, ← Nat.pow_succ, Nat.mod_pow_succ, Nat.add_mul, Nat.mul_comm (2 ^ n) (x / 2 ^ n % 2), Nat.mul_assoc, Nat.add_assoc]
/-- .. as the code's words have it: what goes out below comes in above. -/
theorem rotN_or {b x n : Nat} (hx : x < 2 ^ b) (hn : n ≤ b) : rotN b x n = (x / 2 ^ n) ||| (x * 2 ^ (b - n) % 2 ^ b) := by
  have h1 : x * 2 ^ (b - n) % 2 ^ b = x % 2 ^ n * 2 ^ (b - n) := by
    rw [show (2 : Nat) ^ b = 2 ^ n * 2 ^ (b - n) by rw [← Nat.pow_add]; congr 1; omega, Nat.mul_mod_mul_right]
  have h2 : x / 2 ^ n < 2 ^ (b - n) := by
    refine Nat.div_lt_of_lt_mul ?_
    rw [← Nat.pow_add, show n + (b - n) = b by omega]
    exact hx
  rw [rotN_is n hn, h1, Nat.mul_comm (x % 2 ^ n), Nat.add_comm, Nat.two_pow_add_eq_or_of_lt h2, Nat.or_comm]
end Go.Proofs.YtkbkalhcdbklkaaGreatDoor
namespace Go.Proofs.YtkbkalhcdbklkaaGreatDoor
open Go Go.RowKit
/-- The words behind j blocks, of any words at first. -/
def runs (S : Ks) (V : Nat → Nat) (P : List UInt8) : Nat → Nat → Nat
  | 0 => V
  | j + 1 => blN S (runs S V P j) (nth ((P.drop (j * (2 * S.bits))).take (2 * S.bits)))
def fst (S : Ks) (i : Nat) : Nat := S.first.getD i 0
theorem runs_zero (S : Ks) (V : Nat → Nat) (P : List UInt8) : runs S V P 0 = V := rfl
theorem runs_succ (S : Ks) (V : Nat → Nat) (P : List UInt8) (j : Nat) : runs S V P (j + 1) = blN S (runs S V P j) (nth ((P.drop (j * (2 * S.bits))).take (2 * S.bits))) := rfl
theorem sums_runs (S : Ks) (P : List UInt8) : ∀ j, sums S P j = runs S (fst S) P j
  | 0 => rfl
  | j + 1 => by rw [sums_succ, runs_succ, sums_runs S P j]
theorem runs_lt {S : Ks} {V : Nat → Nat} (hV : ∀ i, V i < 2 ^ S.bits) (P : List UInt8) : ∀ j i, runs S V P j i < 2 ^ S.bits
  | 0, i => hV i
  | j + 1, i => by
    rw [runs_succ]
    unfold blN
    exact Nat.mod_lt _ (Nat.pow_pos (by decide))
theorem runs_left (S : Ks) (V : Nat → Nat) (P Q : List UInt8) : ∀ j, j * (2 * S.bits) ≤ P.length → runs S V (P ++ Q) j = runs S V P j
  | 0, _ => rfl
  | j + 1, h => by
    rw [Nat.succ_mul] at h
    rw [runs_succ, runs_succ, runs_left S V P Q j (by omega), List.drop_append_of_le_length (by omega), List.take_append_of_le_length (by rw [List.length_drop]; omega)]
theorem runs_right (S : Ks) (V : Nat → Nat) (P Q : List UInt8) {k : Nat} (h : P.length = k * (2 * S.bits)) : ∀ j, runs S V (P ++ Q) (k + j) = runs S (runs S V P k) Q j
  | 0 => runs_left S V P Q k (by omega)
  | j + 1 => by
    have e : (P ++ Q).drop ((k + j) * (2 * S.bits)) = Q.drop (j * (2 * S.bits)) := by
      rw [Nat.add_mul, ← h, List.drop_append]
      simp
    rw [← Nat.add_assoc, runs_succ, runs_succ, runs_right S V P Q h j, e]
/-- On from any whole block. -/
theorem runs_on (S : Ks) (V : Nat → Nat) (P : List UInt8) {k : Nat} (h : k * (2 * S.bits) ≤ P.length) (j : Nat) : runs S V P (k + j) = runs S (runs S V P k) (P.drop (k * (2 * S.bits))) j := by
  have hl : (P.take (k * (2 * S.bits))).length = k * (2 * S.bits) := by rw [List.length_take]; omega
  have h1 := runs_right S V (P.take (k * (2 * S.bits))) (P.drop (k * (2 * S.bits))) hl j
  have h2 := runs_left S V (P.take (k * (2 * S.bits))) (P.drop (k * (2 * S.bits))) k (by omega)
  rw [List.take_append_drop] at h1 h2
  rw [h1, h2]
/-- What follows the last whole block, padded; all in all there are so many bytes. -/
def padR (S : Ks) (rest : List UInt8) (all : Nat) : List UInt8 := pz rest (zc S rest.length + (S.bits / 4 - 8)) ++ gen (lb all) 8
theorem zc_mod {S : Ks} (hb : S.bits = 32 ∨ S.bits = 64) {a b : Nat} (h : a % (2 * S.bits) = b % (2 * S.bits)) : zc S a = zc S b := by
  unfold zc
  generalize S.bits = n at *
  rcases hb with rfl | rfl <;> omega
theorem padL_cut {S : Ks} (hb : S.bits = 32 ∨ S.bits = 64) (bs : List UInt8) {k : Nat} (hk : k * (2 * S.bits) ≤ bs.length) : padL S bs = bs.take (k * (2 * S.bits)) ++ padR S (bs.drop (k * (2 * S.bits))) bs.length := by
  have h : zc S (bs.length - k * (2 * S.bits)) = zc S bs.length := zc_mod hb (by
    obtain ⟨r, hr⟩ : ∃ r, bs.length = r + (2 * S.bits) * k := ⟨bs.length - k * (2 * S.bits), by rw [Nat.mul_comm] at hk ⊢; omega⟩
    rw [hr, Nat.mul_comm k, Nat.add_sub_cancel, Nat.add_mul_mod_self_left])
  unfold padL padR pz
  rw [List.length_drop, h, ← List.append_assoc, ← List.append_assoc, List.take_append_drop]
theorem padR_length {S : Ks} (hb : S.bits = 32 ∨ S.bits = 64) (rest : List UInt8) (all : Nat) : (padR S rest all).length % (2 * S.bits) = 0 ∧ (padR S rest all).length = rest.length + 1 + zc S rest.length + S.bits / 4 := by
  have h := (zc_at hb rest.length (zc S rest.length) (Nat.le_refl _)).2 rfl
  have e : (padR S rest all).length = rest.length + 1 + zc S rest.length + S.bits / 4 := by
    unfold padR
    rw [List.length_append, pz_length, gen_length]
    rcases hb with h | h <;> rw [h] <;> omega
  exact ⟨by rw [e]; exact h, e⟩
/-- The code's sum: on from any words, of any bytes behind them. -/
def sumR (S : Ks) (V : Nat → Nat) (b : List UInt8) (all : Nat) : List UInt8 :=
  gen (outB S (runs S (runs S V b (b.length / (2 * S.bits))) (padR S (b.drop (b.length / (2 * S.bits) * (2 * S.bits))) all) ((padR S (b.drop (b.length / (2 * S.bits) * (2 * S.bits))) all).length / (2 * S.bits)))) S.bits
theorem sumN_cut {S : Ks} (hb : S.bits = 32 ∨ S.bits = 64) (bs : List UInt8) {k : Nat} (hk : k * (2 * S.bits) ≤ bs.length) :
    sumN S bs = gen (outB S (runs S (runs S (fst S) bs k) (padR S (bs.drop (k * (2 * S.bits))) bs.length) ((padR S (bs.drop (k * (2 * S.bits))) bs.length).length / (2 * S.bits)))) S.bits := by
  have hp : 0 < 2 * S.bits := by omega
  have hl : (bs.take (k * (2 * S.bits))).length = k * (2 * S.bits) := by rw [List.length_take]; omega
  have h2 := runs_left S (fst S) (bs.take (k * (2 * S.bits))) (bs.drop (k * (2 * S.bits))) k (by omega)
  rw [List.take_append_drop] at h2
  unfold sumN
  rw [sums_runs, padL_cut hb bs hk, List.length_append, hl, Nat.add_comm, Nat.add_mul_div_right _ _ hp, Nat.add_comm _ k, runs_right S _ _ _ hl, ← h2]
theorem sumR_all {S : Ks} (hb : S.bits = 32 ∨ S.bits = 64) (bs : List UInt8) : sumR S (fst S) bs bs.length = sumN S bs := by
  rw [sumN_cut hb bs (Nat.div_mul_le_self bs.length (2 * S.bits))]
  rfl
end Go.Proofs.YtkbkalhcdbklkaaGreatDoor
namespace Go.Proofs.YtkbkalhcdbklkaaGreatDoor
open Go Go.RowKit
/-- So many variables lie ahead of all that a call makes. -/
def glbN : Nat := max (1 + 1) (max (4 + 1) (5 + 1))
/-- The program's tables, as its own text lays them. -/
structure GlbS (w : World) : Prop where
  b : ∀ k, k < 8 → w.cell? ⟨1, k, none⟩ = some (.int .u64 ((fst greatS k : Nat) : Int))
  c : ∀ k, k < 64 → w.cell? ⟨4, k, none⟩ = some (.int .u32 ((smallS.keys.getD k 0 : Nat) : Int))
  d : ∀ k, k < 80 → w.cell? ⟨5, k, none⟩ = some (.int .u64 ((greatS.keys.getD k 0 : Nat) : Int))
theorem GlbS.four {w : World} (h : GlbS w) : glbN ≤ w.heap.size := by
  have h1 := World.block_lt_of_cell? w ⟨1, 0, none⟩ (h.b 0 (by decide))
  have h2 := World.block_lt_of_cell? w ⟨4, 0, none⟩ (h.c 0 (by decide))
  have h3 := World.block_lt_of_cell? w ⟨5, 0, none⟩ (h.d 0 (by decide))
  unfold glbN
  simp only at h1 h2 h3
  omega
theorem GlbS.keep {w w' : World} (h : GlbS w) {B : Nat} (hb : Below B w w') (hB : glbN ≤ B) : GlbS w' := by
  unfold glbN at hB
  exact ⟨fun k hk => (hb.cell (p := ⟨1, k, none⟩) (show 1 < B by omega)).trans (h.b k hk), fun k hk => (hb.cell (p := ⟨4, k, none⟩) (show 4 < B by omega)).trans (h.c k hk), fun k hk => (hb.cell (p := ⟨5, k, none⟩) (show 5 < B by omega)).trans (h.d k hk)⟩
theorem GlbS.next {w w' : World} (h : GlbS w) (hb : Below w.heap.size w w') : GlbS w' := h.keep hb h.four
end Go.Proofs.YtkbkalhcdbklkaaGreatDoor
