/-
  The code's tables, number, get, put, of both words (layer 6). Written by tools/gen_n22.py. By an AI agent.
-/
import Derived.Test.YtbofehdihflkiaaDoorN20
import Derived.Test.YtbofehdihflkiaaDoorGl7
import Derived.Test.YtbofehdihflkiaaDoorN21
import Derived.Test.YtbofehdihflkiaaDoorBox
namespace Go.Proofs.YtbofehdihflkiaaDoor
open Go Go.RowKit
set_option maxRecDepth 20000
/-- A word's byte, the lowest first. -/
def bb (x i : Nat) : Nat := x / 2 ^ (8 * i) % 256
theorem bb_lt (x i : Nat) : bb x i < 256 := Nat.mod_lt _ (by decide)
def bput (f : Nat → Value) (o s x i : Nat) (j : Nat) : Value := if o + s ≤ j + i ∧ j < o + s then .int .u8 ((bb x (o + s - 1 - j) : Nat) : Int) else f j
theorem bput_zero (f : Nat → Value) (o s x : Nat) : bput f o s x 0 = f := by
  funext j
  unfold bput
  rw [if_neg (by omega)]
theorem bput_succ (f : Nat → Value) (o s x : Nat) {i m : Nat} (hi : i < s) (hm : m = s - 1 - i) (j : Nat) : (if j = o + m then Value.int .u8 ((bb x i : Nat) : Int) else bput f o s x i j) = bput f o s x (i + 1) j := by
  unfold bput
  by_cases h : j = o + m
  · rw [if_pos h, if_pos (by omega), show o + s - 1 - j = i by omega]
  · rw [if_neg h]
    by_cases h2 : o + s ≤ j + i ∧ j < o + s
    · rw [if_pos h2, if_pos (by omega)]
    · rw [if_neg h2, if_neg (by omega)]
theorem be_or {x c : Nat} (hc : c < 256) : (x * 256) ||| c = x * 256 + c := by
  rw [Nat.mul_comm, show (256 : Nat) = 2 ^ 8 by decide]
  exact (Nat.two_pow_add_eq_or_of_lt (i := 8) (b := c) (by omega) x).symm
set_option maxHeartbeats 1600000 in
theorem number_32 {t : Nat} (ht : t < 64) (w : World) (hG : Glb w) : Calls Tryd.prog 54 #[.int .i64 (t : Int)] w fun e w' => e = .returned (.int .u32 ((smallS.keys.getD t 0 : Nat) : Int)) ∧ w' = w := by
  have hc := hG.c t ht
  generalize smallS.keys.getD t 0 = r at *
  have h1 : (t : Int) < 64 := by omega
  have h2 : (0 : Int) ≤ (t : Int) := by omega
  clear hG
  go_enter Tryd.func54, Tryd.ntmps54
  go_wp2_with fail
  go_at_call 59
  refine (small_32 _).mono ?_
  rintro e v1 ⟨rfl, rfl⟩
  go_wp2_with fail
  go_ret
  exact ⟨rfl, rfl⟩
theorem be_fit_32 {y : Nat → Nat} (hy : ∀ i, y i < 256) (p : Nat) {k : Nat} (hk : k < 4) : be y p k < 16777216 := Nat.lt_of_lt_of_le (be_lt hy p k) (Nat.le_trans (Nat.pow_le_pow_right (by decide) (show k ≤ 4 - 1 by omega)) (by decide))
set_option maxHeartbeats 1600000 in
theorem get_32 {y : Nat → Nat} (hy : ∀ i, y i < 256) {b o p c : Nat} (w : World) (hr : ∀ k, k < 4 → w.cell? ⟨b, o + k, none⟩ = some (.int .u8 ((y (p + k) : Nat) : Int))) :
    Calls Tryd.prog 56 #[.slice (some ⟨b, o, none⟩) 4 c] w fun e w' => e = .returned (.int .u32 ((be y p 4 : Nat) : Int)) ∧ w' = w := by
  have HR := Lib.hid hr
  have HY := Lib.hid hy
  have HB := Lib.hid (fun k hk => be_fit_32 hy p (k := k) hk)
  clear hr hy
  go_enter Tryd.func56, Tryd.ntmps56
  go_wp2_with fail
  go_loop [3, 7] (fun v i => ∃ k : Nat, k ≤ 4 ∧ i = .int .i64 (k : Int) ∧ v = .int .u32 ((be y p k : Nat) : Int))
    (fun _ i => 4 - (intOf i).toNat)
  case atStart => exact ⟨0, by omega, rfl, by rw [be_zero]; rfl⟩
  case round =>
    obtain ⟨k, hk, rfl, rfl⟩ := hrel
    by_cases hlt : k < 4
    · have g1 : (k : Int) < 4 := by omega
      have cc := HR.out k hlt
      have hs := be_succ y p k
      have hb := HB.out k hlt
      have hy := HY.out (p + k)
      generalize y (p + k) = c2 at *
      rw [← be_or hy] at hs
      have e1 : IntKind.u32.wrap (be y p k * 256 : Int) = ((be y p k * 256 : Nat) : Int) := by rw [IntKind.wrap_u32]; omega
      have e2 : IntKind.u32.wrap (c2 : Int) = (c2 : Int) := by rw [IntKind.wrap_u32]; omega
      have e3 := bits_or_u32_nat (be y p k * 256) c2 (by omega) (by omega)
      rw [← hs] at e3
      generalize hz : be y p (k + 1) = z at *
      have HZ := Lib.hid hz
      generalize hx : be y p k = x at *
      generalize hx2 : x * 256 = x2 at *
      clear hs hx hz hy hb hx2
      go_wp2_with fail
      go_round
      case rel => exact ⟨k + 1, by omega, by go_num, by rw [HZ.out]⟩
      case measure => simp [intOf]; omega
    · obtain rfl : k = 4 := by omega
      simp only [Int.cast_ofNat_Int]
      go_wp2_with fail
      go_ret
      exact ⟨rfl, rfl⟩
set_option maxHeartbeats 1600000 in
theorem put_32 {B g o N C cap x : Nat} {f : Nat → Value} {e0 : TypeId} (ho : o + 4 ≤ N) (w : World) (ow : OwnF w B e0 (some ⟨g, 0, none⟩) C N f) :
    Calls Tryd.prog 44 #[.slice (some ⟨g, o, none⟩) 4 cap, .int .u32 (x : Int)] w fun e w' => e = .returned (.tuple #[]) ∧ OwnF w' B e0 (some ⟨g, 0, none⟩) C N (bput f o 4 x 4) ∧ Only g w w' := by
  go_enter Tryd.func44, Tryd.ntmps44
  go_wp2_with fail
  go_loopw [7] (fun i wr => ∃ k : Nat, k ≤ 4 ∧ i = .int .i64 (k : Int) ∧ OwnF wr B e0 (some ⟨g, 0, none⟩) C N (bput f o 4 x k) ∧ Only g w wr)
    (fun i _ => 4 - (intOf i).toNat)
  case atStart => exact ⟨0, by omega, rfl, by rw [bput_zero]; exact ow, Only.refl _ _⟩
  case round =>
    clear ow
    obtain ⟨k, hk, rfl, ow, hb⟩ := hrel
    by_cases hlt : k < 4
    · have g1 : (k : Int) < 4 := by omega
      obtain ⟨m, hm⟩ : ∃ m, m = 4 - 1 - k := ⟨_, rfl⟩
      have cc := ow.cell (k := o + m) (by omega)
      have ff := ow.free (o + m)
      have e1 : IntKind.i64.wrap (3 - (k : Int)) = (m : Int) := by rw [IntKind.wrap_i64]; omega
      have e2 : IntKind.i64.wrap (8 * (k : Int)) = ((8 * k : Nat) : Int) := by rw [IntKind.wrap_i64]; omega
      have e3 : (x : Int) / 2 ^ min (8 * k) 32 = ((x / 2 ^ (8 * k) : Nat) : Int) := by rw [Nat.min_eq_left (by omega)]; simp
      have hzb : bb x k = x / 2 ^ (8 * k) % 256 := rfl
      generalize hz : x / 2 ^ (8 * k) = z at *
      have e4 : IntKind.u8.wrap (z : Int) = ((bb x k : Nat) : Int) := by rw [IntKind.wrap_u8]; omega
      have h1 : (0 : Int) ≤ (m : Int) := by omega
      have h2 : (m : Int) < 4 := by omega
      have hset := ow.set_ (o + m) (.int .u8 ((bb x k : Nat) : Int))
      have hcg := Lib.hid (OwnF.congr hset fun j _ => bput_succ f o 4 x hlt hm j)
      have ho2 := Lib.hid (hb.trans (Only.setCell wr ⟨g, o + m, none⟩ (.int .u8 ((bb x k : Nat) : Int))))
      generalize bb x k = zb at *
      generalize h8 : 8 * k = k8 at *
      have g8 : (0 : Int) ≤ (k8 : Int) := by omega
      clear hzb hm hset ow hb hz h8
      go_wp2_with fail
      exact ⟨⟨k + 1, by omega, by go_num, hcg.out, ho2.out⟩, by simp [intOf]; omega⟩
    · obtain rfl : k = 4 := by omega
      simp only [Int.cast_ofNat_Int]
      go_wp2_with fail
      exact bodyPost_end (v := .tuple #[]) (by simp [results, Tryd.results44, go_sem]) rfl ⟨rfl, ow, hb⟩
theorem be_fit_64 {y : Nat → Nat} (hy : ∀ i, y i < 256) (p : Nat) {k : Nat} (hk : k < 8) : be y p k < 72057594037927936 := Nat.lt_of_lt_of_le (be_lt hy p k) (Nat.le_trans (Nat.pow_le_pow_right (by decide) (show k ≤ 8 - 1 by omega)) (by decide))
end Go.Proofs.YtbofehdihflkiaaDoor
