import Derived.Test.YtebhefgfebghkaaDoorL5
namespace Go.Proofs.YtebhefgfebghkaaDoor
open Go Go.RowKit
theorem infoSlice : (Tryd.prog.info? 22).map (fun i => (i.zero, i.size, i.bytes)) = some (some (.slice none 0 0), 1, 24) := by kernel_rfl

def row (L : List (List UInt8)) (k : Nat) : List UInt8 := L[k]?.getD []
theorem row_get {L : List (List UInt8)} {k : Nat} (h : k < L.length) : row L k = L[k] := by simp [row, h]
/-- All lists, one behind the other. -/
def joinL (L : List (List UInt8)) : List UInt8 := L.flatten
/-- The first k lists, one behind the other. -/
def joinK (L : List (List UInt8)) (k : Nat) : List UInt8 := (L.take k).flatten
theorem joinK_zero (L : List (List UInt8)) : joinK L 0 = [] := by simp [joinK]
theorem joinK_succ {L : List (List UInt8)} {k : Nat} (h : k < L.length) : joinK L (k + 1) = joinK L k ++ row L k := by
  simp only [joinK, List.take_succ_eq_append_getElem h, List.flatten_append, row_get h]; simp
theorem joinK_full (L : List (List UInt8)) : joinK L L.length = joinL L := by simp [joinK, joinL]
theorem joinK_le (L : List (List UInt8)) (k : Nat) : (joinK L k).length ≤ (joinL L).length := by
  unfold joinL
  have : L.flatten = joinK L k ++ (L.drop k).flatten := by rw [joinK, ← List.flatten_append, List.take_append_drop]
  rw [this, List.length_append]; omega
theorem row_le {L : List (List UInt8)} {k : Nat} (h : k < L.length) : (joinK L k).length + (row L k).length ≤ (joinL L).length := by
  have := joinK_le L (k + 1)
  rw [joinK_succ h, List.length_append] at this
  exact this

/-- The slice at 'A' reads as the lists of bytes L, all below block B. -/
structure Rds (w : World) (B : Nat) (A : Option Addr) (c : Nat) (L : List (List UInt8)) : Prop where
  cap : L.length ≤ c
  nil : A = none → L = [] ∧ c = 0
  some_ : L ≠ [] → ∃ b o, A = some ⟨b, o, none⟩ ∧ b < B ∧ ∀ k, k < L.length → ∃ Ak ck, w.cell? ⟨b, o + k, none⟩ = some (.slice Ak (row L k).length ck) ∧ Rd w B Ak ck (row L k)
section
variable {w w' : World} {B B' c : Nat} {A : Option Addr} {L : List (List UInt8)}
theorem Rds.keep (h : Rds w B A c L) (hb : Below B w w') : Rds w' B A c L :=
  ⟨h.cap, h.nil, fun hn => by
    obtain ⟨b, o, e, hlt, hc⟩ := h.some_ hn
    refine ⟨b, o, e, hlt, fun k hk => ?_⟩
    obtain ⟨Ak, ck, h1, h2⟩ := hc k hk
    exact ⟨Ak, ck, (hb.cell (p := ⟨b, o + k, none⟩) hlt).trans h1, h2.keep hb⟩⟩
theorem Rds.mono (h : Rds w B A c L) (hb : B ≤ B') : Rds w B' A c L :=
  ⟨h.cap, h.nil, fun hn => by
    obtain ⟨b, o, e, hlt, hc⟩ := h.some_ hn
    refine ⟨b, o, e, by omega, fun k hk => ?_⟩
    obtain ⟨Ak, ck, h1, h2⟩ := hc k hk
    exact ⟨Ak, ck, h1, h2.mono hb⟩⟩
theorem Rds.next (h : Rds w w.heap.size A c L) (hb : Below w.heap.size w w') : Rds w' w'.heap.size A c L := (h.keep hb).mono hb.size
theorem Rds.at_ {k : Nat} (h : Rds w B A c L) (hk : k < L.length) : ∃ b o, A = some ⟨b, o, none⟩ ∧ b < B ∧ ∃ Ak ck, w.cell? ⟨b, o + k, none⟩ = some (.slice Ak (row L k).length ck) ∧ Rd w B Ak ck (row L k) := by
  obtain ⟨b, o, e, hlt, hc⟩ := h.some_ (by rintro rfl; simp at hk)
  exact ⟨b, o, e, hlt, hc k hk⟩
end

set_option maxHeartbeats 800000 in
theorem rjoin_any {A : Option Addr} {c B : Nat} {L : List (List UInt8)} (w : World) (h1 : Rds w B A c L) (hB : B ≤ w.heap.size) (hs : (joinL L).length ≤ 1048576) (hn : L.length ≤ 1048576) :
    Calls Tryd.prog 21 #[.slice A L.length c] w fun e w' => ∃ A' c', e = .returned (.slice A' (joinL L).length c') ∧ Own w' w.heap.size 5 A' c' (joinL L) ∧ Below w.heap.size w w' := by
  obtain ⟨i0, hi, hz0, hz1, hz2⟩ := info_parts infoByte
  go_enter Tryd.func21, Tryd.ntmps21
  go_wp2
  go_loopw [3, 4, 5] (fun v i _ wr => ∃ k : Nat, k ≤ L.length ∧ i = .int .i64 k ∧ (∃ A c, v = .slice A (joinK L k).length c ∧ Own wr w.heap.size 5 A c (joinK L k)) ∧ Below w.heap.size w wr)
    (fun _ i _ _ => L.length - (intOf i).toNat)
  case atStart => exact ⟨0, Nat.zero_le _, rfl, ⟨none, 0, by rw [joinK_zero]; rfl, by rw [joinK_zero]; exact World.ownsRow_nil _ _ _ _⟩, Below.refl _ _⟩
  case round =>
    obtain ⟨k, hk, rfl, ⟨Av, cv, rfl, ho⟩, hb⟩ := hrel
    by_cases hlt : k < L.length
    · obtain ⟨b1, o1, rfl, hb1, Ak, ck, cc, rk⟩ := (h1.mono hB).at_ hlt
      have g1 : (k : Int) < (L.length : Int) := by omega
      have rl := row_le hlt
      go_wp2_with fail
      obtain ⟨wo, ew⟩ : ∃ wo : World, wo = wr := ⟨_, rfl⟩
      subst ew
      go_loopw [3, 5] (fun v i wr => ∃ j : Nat, j ≤ (row L k).length ∧ i = .int .i64 j ∧ (∃ A c, v = .slice A ((joinK L k).length + j) c ∧ Own wr w.heap.size 5 A c (joinK L k ++ (row L k).take j)) ∧ Below w.heap.size w wr)
        (fun _ i _ => (row L k).length - (intOf i).toNat)
      case atStart => exact ⟨0, Nat.zero_le _, rfl, ⟨Av, cv, rfl, by simpa using ho⟩, hb⟩
      case round =>
        obtain ⟨j, hj, rfl, ⟨Au, cu, rfl, ho2⟩, hb2⟩ := hrel
        have cc2 : wr.cell? ⟨b1, o1 + k, none⟩ = some (.slice Ak (row L k).length ck) := (hb2.cell (p := ⟨b1, o1 + k, none⟩) hb1).trans cc
        by_cases hlt2 : j < (row L k).length
        · have g2 : (j : Int) < ((row L k).length : Int) := by omega
          obtain ⟨b2, o2, rfl, hb2', ce⟩ := rk.at_ hlt2
          have ce2 : wr.cell? ⟨b2, o2 + j, none⟩ = some (.int .u8 (nth (row L k) j : Int)) := (hb2.cell (p := ⟨b2, o2 + j, none⟩) hb2').trans ce
          have hlen : (joinK L k).length + j = (joinK L k ++ (row L k).take j).length := by
            rw [List.length_append, List.length_take, Nat.min_eq_left (by omega)]
          have HL := Lib.hid hlen
          have hv : (nth (row L k) j : Int) = ((get0 (row L k) j).toNat : Int) := rfl
          have HV := Lib.hid hv
          have nb : (joinK L k).length + j + 1 ≤ 140737488355328 := by omega
          clear hlen hv cc ce
          go_wp2_with (at_builtin; refine wpList_app1 _ rfl (.tmp 21) (.tmp 29) _ rfl w.heap.size 5 i0 _ Tryd.underlying22 hi hz0 hz1 hz2 rfl rfl HL.out ho2 rfl _ HV.out nb hb2.size ?_; intro A' c' w' ho' hb')
          go_roundw
          case rel =>
            refine ⟨j + 1, by omega, by go_num, ⟨A', c', by go_num, ?_⟩, hb2.trans hb'⟩
            rw [List.take_succ_eq_append_getElem hlt2, ← List.append_assoc]
            have e : get0 (row L k) j = (row L k)[j] := by simp [get0, hlt2]
            rw [e] at ho'
            exact ho'
          case measure => simp [intOf]; omega
        · have g2 : ¬ (j : Int) < ((row L k).length : Int) := by omega
          have hj' : j = (row L k).length := by omega
          subst hj'
          go_wp2_with fail
          go_roundw
          case rel =>
            refine ⟨k + 1, by omega, by go_num, ⟨Au, cu, ?_, ?_⟩, hb2⟩
            · rw [joinK_succ hlt, List.length_append]
            · rw [joinK_succ hlt]; simpa using ho2
          case measure => simp [intOf]; omega
    · have g1 : ¬ (k : Int) < (L.length : Int) := by omega
      have hk' : k = L.length := by omega
      subst hk'
      rw [joinK_full] at *
      go_wp2_with fail
      go_ret
      exact ⟨Av, cv, rfl, ho, hb⟩
end Go.Proofs.YtebhefgfebghkaaDoor
