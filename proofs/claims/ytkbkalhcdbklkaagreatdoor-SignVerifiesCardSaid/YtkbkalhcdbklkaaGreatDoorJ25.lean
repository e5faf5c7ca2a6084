/-
  A list of lists of bytes in memory. Of no program. By an AI agent. (and more)
-/
import Derived.Test.YtkbkalhcdbklkaaGreatDoorJ01
import Derived.Test.YtkbkalhcdbklkaaGreatDoorJ22
namespace Go.Proofs.YtkbkalhcdbklkaaGreatDoor
section
open Go Go.RowKit
def row (L : List (List UInt8)) (k : Nat) : List UInt8 := L[k]?.getD []
theorem row_get {L : List (List UInt8)} {k : Nat} (h : k < L.length) : row L k = L[k] := by simp [row, h]
def joinL (L : List (List UInt8)) : List UInt8 := L.flatten
def joinK (L : List (List UInt8)) (k : Nat) : List UInt8 := (L.take k).flatten
theorem joinK_zero (L : List (List UInt8)) : joinK L 0 = [] := by simp [joinK]
theorem joinK_succ {L : List (List UInt8)} {k : Nat} (h : k < L.length) : joinK L (k + 1) = joinK L k ++ row L k := by
 simp only [joinK, List.take_succ_eq_append_getElem h, List.flatten_append, row_get h]; simp
theorem joinK_full (L : List (List UInt8)) : joinK L L.length = joinL L := by simp [joinK, joinL]
theorem joinK_le (L : List (List UInt8)) (k : Nat) : (joinK L k).length ≤ (joinL L).length := by
 unfold joinL
 have : L.flatten = joinK L k ++ (L.drop k).flatten := by rw [joinK, ← List.flatten_append, List.take_append_drop]
 rw [this, List.length_append]; omega
theorem row_le {L : List (List UInt8)} {k : Nat} (h : k < L.length) : (joinK L k).length + (row L k).length ≤ (joinL L).length := by
 have := joinK_le L (k + 1)
 rw [joinK_succ h, List.length_append] at this
 exact this
structure Rds (w : World) (B : Nat) (A : Option Addr) (c : Nat) (L : List (List UInt8)) : Prop where
 cap : L.length ≤ c
 nil : A = none → L = [] ∧ c = 0
 some_ : L ≠ [] → ∃ b o, A = some ⟨b, o, none⟩ ∧ b < B ∧ ∀ k, k < L.length → ∃ Ak ck, w.cell? ⟨b, o + k, none⟩ = some (.slice Ak (row L k).length ck) ∧ Rd w B Ak ck (row L k)
section
variable {w w' : World} {B B' c : Nat} {A : Option Addr} {L : List (List UInt8)}
theorem Rds.keep (h : Rds w B A c L) (hb : Below B w w') : Rds w' B A c L :=
 ⟨h.cap, h.nil, fun hn => by
  obtain ⟨b, o, e, hlt, hc⟩ := h.some_ hn
  refine ⟨b, o, e, hlt, fun k hk => ?_⟩
  obtain ⟨Ak, ck, h1, h2⟩ := hc k hk
  exact ⟨Ak, ck, (hb.cell (p := ⟨b, o + k, none⟩) hlt).trans h1, h2.keep hb⟩⟩
theorem Rds.mono (h : Rds w B A c L) (hb : B ≤ B') : Rds w B' A c L :=
 ⟨h.cap, h.nil, fun hn => by
  obtain ⟨b, o, e, hlt, hc⟩ := h.some_ hn
  refine ⟨b, o, e, by omega, fun k hk => ?_⟩
  obtain ⟨Ak, ck, h1, h2⟩ := hc k hk
  exact ⟨Ak, ck, h1, h2.mono hb⟩⟩
theorem Rds.next (h : Rds w w.heap.size A c L) (hb : Below w.heap.size w w') : Rds w' w'.heap.size A c L := (h.keep hb).mono hb.size
theorem Rds.at_ {k : Nat} (h : Rds w B A c L) (hk : k < L.length) : ∃ b o, A = some ⟨b, o, none⟩ ∧ b < B ∧ ∃ Ak ck, w.cell? ⟨b, o + k, none⟩ = some (.slice Ak (row L k).length ck) ∧ Rd w B Ak ck (row L k) := by
 obtain ⟨b, o, e, hlt, hc⟩ := h.some_ (by rintro rfl; simp at hk)
 exact ⟨b, o, e, hlt, hc k hk⟩
end
end
section
open Go Go.RowKit
theorem run_mk0 {P : Program} (t e : TypeId) (i : TypeInfo) (ht : P.underlying t = some (.slice e)) (hi : P.info? e = some i) (hz : i.zero = some (.int .u8 0))
  (hsize : i.size = 1) (hby : i.bytes = 1) {n : Nat} (hn : n ≤ 281474976710656) (w : World) :
  (Instr.makeSlice t (.int .i64 0) (.int .i64 (n : Int))).run P w = .ok (.slice (some ⟨w.heap.size, 0, none⟩) 0 n) (w.alloc (.cells (madeCells #[.int .u8 0] n) e)) := by
 have h := run_make (P := P) w t e i (.int .u8 0) ht hi hz .i64 .i64 0 n (by omega) (by omega) (by rw [hby]; omega) (by omega)
 simpa [hsize, Value.cells] using h
theorem Own.made0 {w : World} {B n : Nat} (e : TypeId) (hB : B ≤ w.heap.size) (hn : n ≤ maxLen) : Own (w.alloc (.cells (madeCells #[.int .u8 0] n) e)) B e (some ⟨w.heap.size, 0, none⟩) n [] :=
 World.ownsRow_made w _ n hB hn (by simp [madeCells])
set_option maxHeartbeats 800000 in
theorem join_code {A : Option Addr} {c B : Nat} {L : List (List UInt8)} (w : World) (h1 : Rds w B A c L) (hB : B ≤ w.heap.size) (hs : (joinL L).length ≤ 1048576) (hn : L.length ≤ 1048576) :
  Calls Tryz.prog 23 #[.slice A L.length c] w fun e w' => ∃ A' c', e = .returned (.slice A' (joinL L).length c') ∧ Own w' w.heap.size 5 A' c' (joinL L) ∧ Below w.heap.size w w' := by
 obtain ⟨i0, hi, hz0, hz1, hz2⟩ := info_parts infoU8
 go_enter Tryz.func23, Tryz.ntmps23
 go_wp2
 go_loop [3, 11] (fun n i => ∃ k : Nat, k ≤ L.length ∧ i = .int .i64 k ∧ n = .int .i64 ((joinK L k).length : Int)) (fun _ i => L.length - (intOf i).toNat)
 case atStart => exact ⟨0, Nat.zero_le _, rfl, by rw [joinK_zero]; rfl⟩
 case round =>
  obtain ⟨k, hk, rfl, rfl⟩ := hrel
  by_cases hlt : k < L.length
  ·obtain ⟨b1, o1, rfl, hb1, Ak, ck, cc, rk⟩ := (h1.mono hB).at_ hlt
   have g1 : (k : Int) < (L.length : Int) := by omega
   have rl := row_le hlt
   go_wp2_with fail
   go_round
   case rel => exact ⟨k + 1, by omega, by go_num, by rw [joinK_succ hlt, List.length_append]; go_num⟩
   case measure => simp [intOf]; omega
  ·have g1 : ¬ (k : Int) < (L.length : Int) := by omega
   have hk' : k = L.length := by omega
   subst hk'
   rw [joinK_full] at *
   have hmk := run_mk0 (P := Tryz.prog) 22 5 i0 Tryz.underlying22 hi hz0 hz1 hz2 (n := (joinL L).length) (by omega)
   have hm : Own (w.alloc (.cells (madeCells #[.int .u8 0] (joinL L).length) 5)) w.heap.size 5 (some ⟨w.heap.size, 0, none⟩) (joinL L).length [] := Own.made0 5 (Nat.le_refl _) (by unfold maxLen; omega)
   have hb0 : Below w.heap.size w (w.alloc (.cells (madeCells #[.int .u8 0] (joinL L).length) 5)) := (Below.refl _ w).alloc (Nat.le_refl _) _
   go_wp2_with fail
   clear hmk
   go_loopw [6, 24] (fun v i wr => ∃ k : Nat, k ≤ L.length ∧ i = .int .i64 k ∧ (∃ A c, v = .slice A (joinK L k).length c ∧ Own wr w.heap.size 5 A c (joinK L k)) ∧ Below w.heap.size w wr)
    (fun _ i _ => L.length - (intOf i).toNat)
   case atStart => exact ⟨0, Nat.zero_le _, rfl, ⟨_, _, by rw [joinK_zero]; rfl, by rw [joinK_zero]; exact hm⟩, hb0⟩
   case round =>
    obtain ⟨k, hk, rfl, ⟨Av, cv, rfl, ho⟩, hb⟩ := hrel
    clear hm hb0 g1
    by_cases hlt : k < L.length
    ·obtain ⟨b1, o1, rfl, hb1, Ak, ck, cc, rk⟩ := (h1.mono hB).at_ hlt
     have g1 : (k : Int) < (L.length : Int) := by omega
     have rl := row_le hlt
     have cc2 : wr.cell? ⟨b1, o1 + k, none⟩ = some (.slice Ak (row L k).length ck) := (hb.cell (p := ⟨b1, o1 + k, none⟩) hb1).trans cc
     have rk2 := rk.keep hb
     clear cc rk
     go_wp2_with (at_builtin; refine wpList_app _ rfl (.tmp 28) (.tmp 29) _ rfl w.heap.size 5 i0 _ Tryz.underlying22 hi hz0 hz1 hz2 rfl rfl ho rfl rk2 (by omega) hb.size ?_; intro A' c' w' ho' hb')
     go_roundw
     case rel =>
      exact ⟨k + 1, by omega, by go_num, ⟨A', c', by rw [joinK_succ hlt, List.length_append], by rw [joinK_succ hlt]; exact ho'⟩, hb.trans hb'⟩
     case measure => simp [intOf]; omega
    ·have g1 : ¬ (k : Int) < (L.length : Int) := by omega
     have hk' : k = L.length := by omega
     subst hk'
     rw [joinK_full] at *
     go_wp2_with fail
     go_ret
     exact ⟨Av, cv, rfl, ho, hb⟩
end
end Go.Proofs.YtkbkalhcdbklkaaGreatDoor
