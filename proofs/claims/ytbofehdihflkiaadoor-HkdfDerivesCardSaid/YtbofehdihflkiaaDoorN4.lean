/-
  The document's primes and numbers (layer 6). By an AI agent.
-/
import Derived.Test.YtbofehdihflkiaaDoorN3
namespace Go.Proofs.YtbofehdihflkiaaDoor
open Go Go.RowKit
/-- The primes among 2 .. n + 1, by what divides. -/
def pr : Nat → List Nat
  | 0 => []
  | n + 1 => if (pr n).all (fun d => (n + 2) % d != 0) then pr n ++ [n + 2] else pr n
theorem pr_mem : ∀ (n : Nat), ∀ d ∈ pr n, 2 ≤ d ∧ d < n + 2
  | 0, d, h => by simp [pr] at h
  | n + 1, d, h => by
    unfold pr at h
    split at h
    · rcases List.mem_append.1 h with h | h
      · have := pr_mem n d h; omega
      · simp at h; omega
    · have := pr_mem n d h; omega
theorem pr_pre : ∀ (n m : Nat), ∃ l, pr (n + m) = pr n ++ l
  | n, 0 => ⟨[], by simp⟩
  | n, m + 1 => by
    obtain ⟨l, h⟩ := pr_pre n m
    have e : pr (n + (m + 1)) = if (pr (n + m)).all (fun d => (n + m + 2) % d != 0) then pr (n + m) ++ [n + m + 2] else pr (n + m) := rfl
    rw [e]
    split
    · exact ⟨l ++ [n + m + 2], by rw [h, List.append_assoc]⟩
    · exact ⟨l, h⟩
theorem pr_at {n s k : Nat} (h : n ≤ s) (hk : k < (pr n).length) : (pr s).getD k 0 = (pr n).getD k 0 := by
  obtain ⟨l, hl⟩ := pr_pre n (s - n)
  rw [show n + (s - n) = s by omega] at hl
  rw [hl]
  simp [List.getD, List.getElem?_append_left hk]
theorem pr_len_le (n : Nat) : (pr n).length ≤ n := by
  induction n with
  | zero => simp [pr]
  | succ n ih =>
    unfold pr
    split
    · rw [List.length_append, List.length_singleton]; omega
    · omega
def iv (L : List Nat) (k : Nat) : Value := .int .i64 ((L.getD k 0 : Nat) : Int)
def uv (L : List Nat) (k : Nat) : Value := .int .u64 ((L.getD k 0 : Nat) : Int)
set_option maxRecDepth 20000 in
set_option maxHeartbeats 1600000 in
theorem primes_any {n s : Nat} (hs : (pr s).length = n) (hlt : ∀ t, t < s → (pr t).length < n) (hs1 : s ≤ 1000) (w : World) :
    Calls Tryd.prog 37 #[.int .i64 (n : Int)] w fun en w' => ∃ A c, en = .returned (.slice A n c) ∧ OwnF w' w.heap.size 3 A c n (iv (pr s)) ∧ Below w.heap.size w w' := by
  obtain ⟨i0, hi, hz0, hz1, hz2⟩ := info_parts infoInt
  have HLT := Lib.hid hlt
  have HS := Lib.hid hs
  have hn1 := pr_len_le s
  rw [hs] at hn1
  clear hlt hs
  go_enter Tryd.func37, Tryd.ntmps37
  go_wp2_with fail
  go_loopw [3, 4] (fun v pp wr => ∃ t P : Nat, t ≤ s ∧ P = t + 2 ∧ pp = .int .i64 (P : Int) ∧ (∃ A c, v = .slice A (pr t).length c ∧ OwnF wr w.heap.size 3 A c (pr t).length (iv (pr s))) ∧ Below w.heap.size w wr)
    (fun _ pp _ => s + 2 - (intOf pp).toNat)
  case atStart => exact ⟨0, 2, by omega, rfl, rfl, ⟨none, 0, rfl, OwnF.nothing _ _ _ _⟩, Below.refl _ _⟩
  case round =>
    obtain ⟨t, P, ht, hP, rfl, ⟨A, c, rfl, os⟩, hb⟩ := hrel
    by_cases hts : t = s
    · subst hts
      have hl := HS.out
      rw [hl] at os ⊢
      have g1 : ¬ (n : Int) < (n : Int) := by omega
      clear hP
      go_wp2_with fail
      go_ret
      exact ⟨A, c, rfl, os, hb⟩
    · obtain ⟨ln, hln⟩ : ∃ l, l = (pr t).length := ⟨_, rfl⟩
      have hll : ln < n := by rw [hln]; exact HLT.out t (by omega)
      have hmem : ∀ k, k < ln → 2 ≤ (pr s).getD k 0 ∧ (pr s).getD k 0 < P := fun k hk => by
        rw [pr_at ht (by omega), hP]
        refine pr_mem t _ ?_
        rw [List.getD_eq_getElem?_getD, List.getElem?_eq_getElem (by omega)]
        exact List.getElem_mem _
      have hall : (pr t).all (fun d => P % d != 0) = true ↔ ∀ k, k < ln → P % (pr s).getD k 0 ≠ 0 := by
        rw [List.all_eq_true]
        constructor
        · intro h k hk
          have := h ((pr t)[k]'(by omega)) (List.getElem_mem _)
          rw [pr_at ht (by omega), List.getD_eq_getElem?_getD, List.getElem?_eq_getElem (by omega)]
          simpa using this
        · intro h d hd
          obtain ⟨k, hk, rfl⟩ := List.getElem_of_mem hd
          have := h k (by omega)
          rw [pr_at ht (by omega), List.getD_eq_getElem?_getD, List.getElem?_eq_getElem (by omega)] at this
          simpa using this
      have hsucc : pr (t + 1) = if (pr t).all (fun d => P % d != 0) then pr t ++ [P] else pr t := by rw [hP]; rfl
      have HM := Lib.hid hmem
      have HA := Lib.hid hall
      have HU := Lib.hid hsucc
      have HN := Lib.hid hln
      have HP := Lib.hid hP
      rw [← hln] at os ⊢
      clear hmem hall hsucc hln
      have g1 : (ln : Int) < (n : Int) := by omega
      have gi : IntKind.i64.wrap ((P : Int) + 1) = ((P + 1 : Nat) : Int) := by rw [IntKind.wrap_i64]; omega
      have hPs : P ≤ 1002 := by omega
      clear hP
      go_wp2_with fail
      obtain ⟨w0, e0⟩ : ∃ w0 : World, w0 = wr := ⟨_, rfl⟩
      subst e0
      go_loopw [5, 6] (fun le ii wz => ∃ k : Nat, k ≤ ln ∧ ii = .int .i64 (k : Int) ∧ (∃ l : Nat, le = .int .i64 (l : Int) ∧ ((l = P ∧ ∀ m, m < k → P % (pr s).getD m 0 ≠ 0) ∨ (l ≠ P ∧ ∃ m, m < ln ∧ P % (pr s).getD m 0 = 0))) ∧ wz = w0)
        (fun _ ii _ => ln - (intOf ii).toNat)
      case atStart => exact ⟨0, by omega, rfl, ⟨P, rfl, .inl ⟨rfl, fun m h => by omega⟩⟩, rfl⟩
      case round =>
        obtain ⟨k, hk, rfl, ⟨l, rfl, hl⟩, rfl⟩ := hrel
        by_cases hlP : l = P
        · subst hlP
          have hl2 : ∀ m, m < k → l % (pr s).getD m 0 ≠ 0 := by
            rcases hl with h | h
            · exact h.2
            · exact absurd rfl h.1
          clear hl
          by_cases hkl : k < ln
          · have g2 : (k : Int) < (ln : Int) := by omega
            obtain ⟨b1, o1, rfl, hb1, c1⟩ := os.rd.at_ hkl
            obtain ⟨hd1, hd2⟩ := HM.out k hkl
            unfold iv at c1
            have HL2 := Lib.hid hl2
            clear hl2
            obtain ⟨d, hd⟩ : ∃ d, d = (pr s).getD k 0 := ⟨_, rfl⟩
            rw [← hd] at c1 hd1 hd2
            have HD := Lib.hid hd
            clear hd
            have g3 : (l : Int).tmod (d : Int) = ((l % d : Nat) : Int) := by rw [Int.tmod_eq_emod_of_nonneg (by omega)]; exact (Int.natCast_emod _ _).symm
            have g4 : ((d : Int) == 0) = false := by simp; omega
            have g5 : ¬ (d : Int) = 0 := by omega
            by_cases h0 : l % d = 0
            · have g6 : ((l % d : Nat) : Int) = 0 := by omega
              have H0 := Lib.hid h0
              clear h0
              go_wp2_with fail
              exact ⟨⟨k + 1, by omega, by go_num, ⟨d, rfl, .inr ⟨by omega, k, hkl, by rw [← HD.out]; exact H0.out⟩⟩, trivial⟩, by simp [intOf]; omega⟩
            · have g6 : (((l % d : Nat) : Int) == 0) = false := by simp; omega
              have H0 := Lib.hid h0
              clear h0
              go_wp2_with fail
              exact ⟨⟨k + 1, by omega, by go_num, ⟨l, rfl, .inl ⟨rfl, fun m hm => by
                by_cases e : m = k
                · subst e; rw [← HD.out]; exact H0.out
                · exact HL2.out m (by omega)⟩⟩, trivial⟩, by simp [intOf]; omega⟩
          · obtain rfl : k = ln := by omega
            have g2 : ¬ (k : Int) < (k : Int) := by omega
            have hnew : pr (t + 1) = pr t ++ [l] := by rw [HU.out, if_pos (HA.out.2 hl2)]
            have hv : Value.int .i64 (l : Int) = iv (pr s) k := by
              unfold iv
              rw [pr_at (n := t + 1) (by omega) (by rw [hnew, List.length_append, ← HN.out]; simp), hnew]
              simp [List.getD, HN.out]
            have hlen : (pr (t + 1)).length = k + 1 := by rw [hnew, List.length_append, ← HN.out]; rfl
            have HV := Lib.hid hv
            have HL := Lib.hid hlen
            clear hv hlen hnew hl2
            go_wp2_with (at_builtin; refine wpList_appF1 _ rfl (.tmp 39) (.tmp 41) _ rfl w.heap.size 3 i0 _ Tryd.underlying65 hi hz0 hz1 hz2 (by decide) rfl rfl os HV.out rfl rfl (by omega) (by omega) hb.size ?_; intro A' c' w' ho' hb')
            go_roundw
            case rel => exact ⟨t + 1, l + 1, by omega, by rw [HP.out], rfl, ⟨A', c', by rw [HL.out], by rw [HL.out]; exact ho'⟩, hb.trans hb'⟩
            case measure => simp [intOf]; have := HP.out; omega
        · have hl2 : ∃ m, m < ln ∧ P % (pr s).getD m 0 = 0 := by
            rcases hl with h | h
            · exact absurd h.1 hlP
            · exact h.2
          have g7 : ((l : Int) == (P : Int)) = false := by simp; omega
          have hnew : pr (t + 1) = pr t := by
            rw [HU.out, if_neg]
            intro h
            obtain ⟨m, h1, h2⟩ := hl2
            exact HA.out.1 h m h1 h2
          have HW := Lib.hid hnew
          clear hl hl2 hnew hlP
          by_cases hkl : k < ln
          · have g2 : (k : Int) < (ln : Int) := by omega
            go_wp2_with fail
            go_roundw
            case rel => exact ⟨t + 1, P + 1, by omega, by rw [HP.out], rfl, ⟨A, c, by rw [HW.out, ← HN.out], by rw [HW.out, ← HN.out]; exact os⟩, hb⟩
            case measure => simp [intOf]; have := HP.out; omega
          · have g2 : ¬ (k : Int) < (ln : Int) := by omega
            go_wp2_with fail
            go_roundw
            case rel => exact ⟨t + 1, P + 1, by omega, by rw [HP.out], rfl, ⟨A, c, by rw [HW.out, ← HN.out], by rw [HW.out, ← HN.out]; exact os⟩, hb⟩
            case measure => simp [intOf]; have := HP.out; omega
end Go.Proofs.YtbofehdihflkiaaDoor
