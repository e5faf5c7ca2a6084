/-
  The document's filled and Low (layer 12). By an AI agent.
-/
import Derived.Test.YtmhfkabpfkoocaaDoorMD
namespace Go.Proofs.YtmhfkabpfkoocaaDoor
open Go Go.RowKit
set_option maxRecDepth 20000
/-- So many noughts are wanted up to a multiple of 16. -/
def pad16 (n : Nat) : Nat := (16 - n % 16) % 16
def fillL (b : List UInt8) : List UInt8 := b ++ List.replicate (pad16 b.length) 0
theorem fillL_len (b : List UInt8) : (fillL b).length = b.length + pad16 b.length := by unfold fillL; rw [List.length_append, List.length_replicate]
theorem pad16_lt (n : Nat) : pad16 n < 16 := Nat.mod_lt _ (by decide)
set_option maxHeartbeats 800000 in
theorem filled_any {A : Option Addr} {B c : Nat} {bs : List UInt8} (w : World) (hr : Rd w B A c bs) (hB : B ≤ w.heap.size) (hl : bs.length ≤ 1000000) :
    Calls Tryd.prog 20 #[.slice A bs.length c] w fun e w' => ∃ A' c', e = .returned (.slice A' (bs.length + pad16 bs.length) c') ∧ Own w' w.heap.size 5 A' c' (fillL bs) ∧ Below w.heap.size w w' := by
  obtain ⟨i0, hi, hz0, hz1, hz2⟩ := info_parts infoByte
  have h2 : Rd (w.alloc (.cells #[] 5)) B A c bs := hr.keep ((Below.refl B w).alloc hB _)
  have h3 : Own (w.alloc (.cells #[] 5)) w.heap.size 5 (some ⟨w.heap.size, 0, none⟩) 0 [] := World.ownsRow_made w #[] 0 (Nat.le_refl _) (by decide) (by decide)
  have h4 : Below w.heap.size w (w.alloc (.cells #[] 5)) := (Below.refl _ w).alloc (Nat.le_refl _) _
  obtain ⟨n, hn⟩ : ∃ n, n = bs.length := ⟨_, rfl⟩
  have HN := Lib.hid hn
  have HF := Lib.hid (show fillL bs = bs ++ List.replicate (pad16 n) 0 by rw [hn]; rfl)
  have hl0 : (0 : Nat) + bs.length ≤ 140737488355328 := by omega
  go_enter Tryd.func20, Tryd.ntmps20
  go_wp2_with (at_builtin; refine wpList_app _ rfl (.tmp 4) (.tmp 5) _ rfl w.heap.size 5 i0 _ Tryd.underlying22 hi hz0 hz1 hz2 rfl (xs := []) rfl h3 rfl h2 hl0 (by simp) ?_; intro A1 c1 v1 ho hb)
  replace ho : Own v1 w.heap.size 5 A1 c1 bs := ho
  have hc := h4.trans hb
  clear h2 h3 h4 hb hr hl0
  go_loopw [3] (fun v wr => ∃ k : Nat, k ≤ pad16 n ∧ (∃ A c, v = .slice A (bs.length + k) c ∧ Own wr w.heap.size 5 A c (bs ++ List.replicate k 0)) ∧ Below w.heap.size w wr)
    (fun v _ => bs.length + 20 - (match v with | .slice _ m _ => m | _ => 0))
  case atStart => exact ⟨0, by omega, ⟨_, _, rfl, by rw [List.replicate_zero, List.append_nil]; exact ho⟩, hc⟩
  case round =>
    clear ho hc
    obtain ⟨k, hk, ⟨Av, cv, rfl, ow⟩, hb⟩ := hrel
    have hp := pad16_lt n
    obtain ⟨m, em⟩ : ∃ m, m = bs.length + k := ⟨_, rfl⟩
    rw [← em]
    have t1 : (m : Int).tmod 16 = ((m % 16 : Nat) : Int) := by rw [Int.tmod_eq_emod_of_nonneg (by omega)]; omega
    by_cases hlt : k < pad16 n
    · have g1 : (((m % 16 : Nat) : Int) != 0) = true := by unfold pad16 at hlt; simp; omega
      have hlen : m = (bs ++ List.replicate k (0 : UInt8)).length := by rw [em, List.length_append, List.length_replicate]
      have HE := Lib.hid em
      have w1 : IntKind.i64.wrap ((m % 16 : Nat) : Int) = ((m % 16 : Nat) : Int) := by rw [IntKind.wrap_i64]; omega
      generalize m % 16 = r at *
      have HM := Lib.hid (show m + 1 ≤ 140737488355328 by omega)
      have HLT := Lib.hid hlt
      have HLN := Lib.hid hlen
      clear em hlen hlt
      go_wp2_with (at_builtin; refine wpList_app1 _ rfl (.tmp 11) (.tmp 12) _ rfl w.heap.size 5 i0 _ Tryd.underlying22 hi hz0 hz1 hz2 rfl rfl HLN.out ow rfl 0 rfl HM.out hb.size ?_; intro A' c' w' ho' hb')
      go_roundw
      case rel => exact ⟨k + 1, HLT.out, ⟨A', c', by rw [HE.out, Nat.add_assoc], by rw [List.replicate_succ', ← List.append_assoc]; exact ho'⟩, hb.trans hb'⟩
      case measure => have := HE.out; have := HLT.out; simp; omega
    · obtain rfl : k = pad16 n := by omega
      have g1 : m % 16 = 0 := by rw [em, ← hn]; unfold pad16; omega
      have t2 : (m : Int).tmod 16 = 0 := by rw [t1, g1]; rfl
      have HE := Lib.hid em
      clear em g1 t1
      go_wp2_with fail
      go_ret
      exact ⟨Av, cv, by rw [HE.out, HN.out]; rfl, by rw [HF.out]; exact ow, hb⟩
theorem rlow_any {x m : Nat} (hx : x < 18446744073709551616) (hm : m ≤ 1000) (w : World) :
    Calls Tryd.prog 21 #[.int .u64 (x : Int), .int .i64 (m : Int)] w fun e w' => ∃ A c, e = .returned (.slice A m c) ∧ Own w' w.heap.size 5 A c (gen (bf x) m) ∧ Below w.heap.size w w' := by
  obtain ⟨i0, hi, hz0, hz1, hz2⟩ := info_parts infoByte
  have HX := Lib.hid hx
  go_enter Tryd.func21, Tryd.ntmps21
  go_wp2_with fail
  go_loopw [0, 5, 6] (fun y v i wr => ∃ k : Nat, k ≤ m ∧ i = .int .i64 (k : Int) ∧ y = .int .u64 ((x / 256 ^ k : Nat) : Int) ∧ (∃ A c, v = .slice A k c ∧ Own wr w.heap.size 5 A c (gen (bf x) k)) ∧ Below w.heap.size w wr)
    (fun _ _ i _ => m - (intOf i).toNat)
  case atStart => exact ⟨0, by omega, rfl, by rw [Nat.pow_zero, Nat.div_one], ⟨none, 0, rfl, World.ownsRow_nil _ _ _ _⟩, Below.refl _ _⟩
  case round =>
    obtain ⟨k, hk, rfl, rfl, ⟨Av, cv, rfl, ow⟩, hb⟩ := hrel
    by_cases hlt : k < m
    · have g1 : (k : Int) < (m : Int) := by omega
      have hz : x / 256 ^ k ≤ x := Nat.div_le_self _ _
      have e2 : x / 256 ^ k / 256 = x / 256 ^ (k + 1) := by rw [Nat.div_div_eq_div_mul, ← Nat.pow_succ]
      have e1 : x / 256 ^ k % 256 = by8 x k := rfl
      have hb8 := bf_nat x k
      have hx2 := HX.out
      obtain ⟨z, ez⟩ : ∃ z, z = x / 256 ^ k := ⟨_, rfl⟩
      obtain ⟨y, ey⟩ : ∃ y, y = x / 256 ^ (k + 1) := ⟨_, rfl⟩
      rw [← ez] at hz e2 e1 ⊢
      rw [← ey] at e2
      have t1 : (z : Int).tmod 256 = ((by8 x k : Nat) : Int) := by rw [Int.tmod_eq_emod_of_nonneg (by omega)]; omega
      have t2 : (z : Int).tdiv 256 = (y : Int) := by rw [Int.tdiv_eq_ediv_of_nonneg (by omega)]; omega
      have w1 : IntKind.u64.wrap ((by8 x k : Nat) : Int) = ((by8 x k : Nat) : Int) := by have := by8_lt x k; rw [IntKind.wrap_u64]; omega
      have w2 : IntKind.u8.wrap ((by8 x k : Nat) : Int) = ((by8 x k : Nat) : Int) := by have := by8_lt x k; rw [IntKind.wrap_u8]; omega
      have w3 : IntKind.u64.wrap (y : Int) = (y : Int) := by rw [IntKind.wrap_u64]; omega
      have HY := Lib.hid ey
      have HB := Lib.hid hb8.symm
      generalize by8 x k = d at *
      clear ez ey e1 e2 hz hx2 hb8
      go_wp2_with (at_builtin; refine wpList_app1 _ rfl (.tmp 12) (.tmp 16) _ rfl w.heap.size 5 i0 _ Tryd.underlying22 hi hz0 hz1 hz2 rfl rfl (gen_length _ _).symm ow rfl (bf x k) (congrArg Int.ofNat HB.out) (by omega) hb.size ?_; intro A' c' w' ho' hb')
      go_roundw
      case rel => exact ⟨k + 1, by omega, by go_num, by rw [HY.out], ⟨A', c', rfl, by rw [gen_succ]; exact ho'⟩, hb.trans hb'⟩
      case measure => simp [intOf]; omega
    · obtain rfl : k = m := by omega
      go_wp2_with fail
      go_ret
      exact ⟨Av, cv, rfl, ow, hb⟩
theorem low8_any {x : Nat} (hx : x < 18446744073709551616) (w : World) :
    Calls Tryd.prog 21 #[.int .u64 (x : Int), .int .i64 8] w fun e w' => ∃ A c, e = .returned (.slice A 8 c) ∧ Own w' w.heap.size 5 A c (gen (bf x) 8) ∧ Below w.heap.size w w' := rlow_any (m := 8) hx (by decide) w
end Go.Proofs.YtmhfkabpfkoocaaDoor
