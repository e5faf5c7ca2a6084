/-
  Layer 6's awake over contracts. By an AI agent.
-/
import Derived.Test.YtbikldocjmelcaaDoorN16
import Derived.Lib.SlBytesConst
namespace Go.Proofs.YtbikldocjmelcaaDoor
open Go Go.RowKit
def abc : List UInt8 := [97, 98, 99]
theorem abc_great : (sumN greatS [97, 98, 99]).take 2 = [0xdd, 0xaf] := by decide +kernel
theorem nth_take {L : List UInt8} {a b : UInt8} (h : L.take 2 = [a, b]) : nth L 0 = a.toNat ∧ nth L 1 = b.toNat := by
  match L, h with
  | [], h => simp at h
  | [x], h => simp at h
  | x :: y :: r, h =>
    simp only [List.take_succ_cons, List.take_zero, List.cons.injEq, and_true] at h
    obtain ⟨rfl, rfl⟩ := h
    exact ⟨rfl, rfl⟩
abbrev AbcO : Obj := .cells #[.int .u8 97, .int .u8 98, .int .u8 99] 5 (3, 4)
theorem abc_rd (w : World) : Rd (w.alloc AbcO) (w.alloc AbcO).heap.size (some ⟨w.heap.size, 0, none⟩) 3 abc := by
  refine ⟨by decide, fun h => by simp at h, fun _ => ⟨w.heap.size, 0, rfl, by simp, fun k hk => ?_⟩⟩
  have : k = 0 ∨ k = 1 ∨ k = 2 := by have : abc.length = 3 := rfl; omega
  have hb : (w.alloc AbcO).heap[w.heap.size]? = some AbcO := by
    show (w.heap.push AbcO)[w.heap.size]? = _
    simp
  unfold World.cell?
  simp only [hb]
  rcases this with rfl | rfl | rfl <;> rfl
set_option maxRecDepth 20000
set_option maxHeartbeats 1600000 in
theorem awake6_gen {S T : List UInt8} (hS : S.length = 32) (hT : T.length = 64) (s0 : nth S 0 = 186) (s1 : nth S 1 = 120) (t0 : nth T 0 = 221) (t1 : nth T 1 = 175)
    (kg : ∀ (A : Option Addr) (c : Nat) (w : World), Glb w → Rd w w.heap.size A c abc → Calls Tryd.prog 11 #[.slice A 3 c] w fun e w' => ∃ A' c', e = .returned (.slice A' 32 c') ∧ Rd w' w'.heap.size A' c' S ∧ Below w.heap.size w w')
    (kw : ∀ (A : Option Addr) (c : Nat) (w : World), Glb w → Rd w w.heap.size A c abc → Calls Tryd.prog 13 #[.slice A 3 c] w fun e w' => ∃ A' c', e = .returned (.slice A' 64 c') ∧ Rd w' w'.heap.size A' c' T ∧ Below w.heap.size w w')
    (w : World) (hG : Glb w) : Calls Tryd.prog 9 #[] w fun e w' => e = .returned (.bool true) ∧ Below w.heap.size w w' := by
  have KG := Lib.hid kg
  have KW := Lib.hid kw
  have R1 := Lib.hid abc_rd
  have HG1 := Lib.hid (hG.next ((Below.refl _ w).alloc (Nat.le_refl _) AbcO))
  have hcv := fun (w : World) (C : Array Value) (n c : Nat) => Lib.run_convert_bytes_const (P := Tryd.prog) w 22 5 C n c Tryd.underlying22 Tryd.underlying5
  clear kg kw
  go_enter Tryd.func9, Tryd.ntmps9
  go_wp2_with fail
  go_at_call 11
  refine (KG.out _ _ _ HG1.out (R1.out w)).mono ?_
  rintro e v1 ⟨A1, c1, rfl, r1, hb⟩
  have hc := ((Below.refl _ w).alloc (Nat.le_refl _) AbcO).trans (hb.mono (by simp))
  clear hb
  go_wp2_with fail
  go_at_call 13
  refine (KW.out _ _ _ (hG.next (hc.trans (((Below.refl _ v1).alloc (Nat.le_refl _) AbcO).mono hc.size))) (R1.out v1)).mono ?_
  rintro e v2 ⟨A2, c2, rfl, r2, hb⟩
  have hd := ((Below.refl _ v1).alloc (Nat.le_refl _) AbcO).trans (hb.mono (by simp))
  replace r1 := r1.keep hd
  replace hc := hc.trans (hd.mono hc.size)
  clear hb hd KG KW R1
  obtain ⟨b1, o1, rfl, _, x0⟩ := r1.at_ (k := 0) (by omega)
  obtain ⟨b1', o1', e1, _, x1⟩ := r1.at_ (k := 1) (by omega)
  obtain ⟨b2, o2, rfl, _, y0⟩ := r2.at_ (k := 0) (by omega)
  obtain ⟨b2', o2', e2, _, y1⟩ := r2.at_ (k := 1) (by omega)
  simp only [Option.some.injEq, Addr.mk.injEq] at e1 e2
  obtain ⟨rfl, rfl, _⟩ := e1
  obtain ⟨rfl, rfl, _⟩ := e2
  rw [s0, Nat.add_zero] at x0
  rw [s1] at x1
  rw [t0, Nat.add_zero] at y0
  rw [t1] at y1
  clear s0 s1 t0 t1 hS hT r1 r2
  go_wp2_with fail
  go_ret
  exact ⟨rfl, hc⟩
theorem sumN_len (S : Ks) (bs : List UInt8) : (sumN S bs).length = S.bits := gen_length _ _
theorem awake6
    (kg : ∀ (bs : List UInt8) (A : Option Addr) (c : Nat) (w : World), bs.length ≤ 100000 → Glb w → Rd w w.heap.size A c bs → Calls Tryd.prog 11 #[.slice A bs.length c] w fun e w' => ∃ A' c', e = .returned (.slice A' 32 c') ∧ Rd w' w'.heap.size A' c' (sumN smallS bs) ∧ Below w.heap.size w w')
    (kw : ∀ (bs : List UInt8) (A : Option Addr) (c : Nat) (w : World), bs.length ≤ 100000 → Glb w → Rd w w.heap.size A c bs → Calls Tryd.prog 13 #[.slice A bs.length c] w fun e w' => ∃ A' c', e = .returned (.slice A' 64 c') ∧ Rd w' w'.heap.size A' c' (sumN greatS bs) ∧ Below w.heap.size w w')
    (w : World) (hG : Glb w) : Calls Tryd.prog 9 #[] w fun e w' => e = .returned (.bool true) ∧ Below w.heap.size w w' :=
  awake6_gen (sumN_len _ _) (sumN_len _ _) (nth_take abc_small).1 (nth_take abc_small).2 (nth_take abc_great).1 (nth_take abc_great).2 (fun A c w hG h => kg abc A c w (by decide) hG h) (fun A c w hG h => kw abc A c w (by decide) hG h) w hG
end Go.Proofs.YtbikldocjmelcaaDoor
