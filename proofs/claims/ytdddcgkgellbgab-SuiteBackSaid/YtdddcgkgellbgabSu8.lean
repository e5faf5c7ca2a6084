/-
  Layer 19, the landed code: the parts cut out of what they are found by. By an AI agent.
-/
import Derived.Test.YtdddcgkgellbgabSu7
namespace Go.Proofs.Ytdddcgkgellbgab
open Go Go.RowKit
set_option maxRecDepth 20000
attribute [local irreducible] e8
theorem own_block {w : World} {B g n : Nat} {e : TypeId} {f : Nat → Value} (h : OwnF w B e (some ⟨g, 0, none⟩) n n f) : w.heap[g]? = some (.cells ((List.range n).map f).toArray e) := by
  obtain ⟨hl, h2⟩ := h
  rcases h2 with ⟨hv, _⟩ | ⟨g', cap, cur, hv, hB, hh, hn, hm, hs, ht⟩
  · simp at hv
  · simp only [Value.slice.injEq, Option.some.injEq, Addr.mk.injEq] at hv
    obtain ⟨⟨rfl, _⟩, _, rfl⟩ := hv
    rw [hh]
    congr 2
    refine Array.toList_inj.1 ?_
    rw [← ht, List.take_of_length_le (by simp; omega)]
def posT (k : UInt8) (L : List (List UInt8)) (j : Nat) : Nat := (k :: formP (L.take j)).length
theorem posT_zero (k : UInt8) (L : List (List UInt8)) : posT k L 0 = 1 := rfl
theorem posT_succ {k : UInt8} {L : List (List UInt8)} {j : Nat} (h : j < L.length) : posT k L (j + 1) = posT k L j + 8 + (row L j).length := by
  unfold posT
  rw [List.length_cons, List.length_cons, formP_succ h, List.length_append, List.length_append, e8_len]
  omega
theorem cut_at {k : UInt8} {L : List (List UInt8)} {j : Nat} (h : j < L.length) : ((formT ⟨k, L⟩).drop (posT k L j + 8)).take (row L j).length = row L j := by
  have e : formT ⟨k, L⟩ = (k :: formP (L.take j)) ++ (e8 (row L j).length ++ (row L j ++ formP (L.drop (j + 1)))) := by
    unfold formT
    rw [← List.take_append_drop (j + 1) L, formP_app, List.take_append_drop, formP_succ h]
    simp
  rw [e, List.drop_append, List.drop_eq_nil_of_le (by unfold posT; omega), List.nil_append, show posT k L j + 8 - (k :: formP (L.take j)).length = 8 by unfold posT; omega, List.drop_left' (e8_len _), List.take_left' rfl]
theorem cut_in {k : UInt8} {L : List (List UInt8)} {j : Nat} (h : j < L.length) : posT k L j + 8 + (row L j).length ≤ (formT ⟨k, L⟩).length := by
  have h1 := cut_at (k := k) h
  have h2 := congrArg List.length h1
  rw [List.length_take, List.length_drop] at h2
  by_cases h0 : (row L j).length = 0
  · have e : formT ⟨k, L⟩ = (k :: formP (L.take (j + 1))) ++ formP (L.drop (j + 1)) := by
      unfold formT
      rw [← List.take_append_drop (j + 1) L, formP_app, List.take_append_drop]
      simp
    rw [e, List.length_append, ← posT_succ h]
    unfold posT
    omega
  · omega
theorem infoStr : (Try.prog.info? 9).map (fun i => (i.zero, i.size, i.bytes)) = some (some (.string ByteArray.empty), 1, 16) := by kernel_rfl
theorem ext_take (X : List UInt8) (a b : Nat) (_hb : b ≤ X.length) : (⟨X.toArray⟩ : ByteArray).extract a b = ⟨((X.drop a).take (b - a)).toArray⟩ := by
  refine ByteArray.ext ?_
  rw [ByteArray.data_extract]
  simp
def cutF (L : List (List UInt8)) (j i : Nat) : Value := if i < j then bStr (row L i) else .string ByteArray.empty
theorem cutF_full (L : List (List UInt8)) : ((List.range L.length).map (cutF L L.length)).toArray = (L.map bStr).toArray := by
  congr 1
  refine List.ext_getElem (by simp) fun i h1 h2 => ?_
  have hi : i < L.length := by simpa using h2
  simp only [List.getElem_map, List.getElem_range, cutF, if_pos hi, row_get hi]
theorem cut_any {k : UInt8} {L : List (List UInt8)} {A : Option Addr} {c : Nat} (w : World) (hr : Rds w w.heap.size A c L) (hl : L.length ≤ 4) (hn : 0 < L.length) (hp : ∀ p ∈ L, p.length ≤ 1099511627776) :
    Calls Try.prog 52 #[.string ⟨(formT ⟨k, L⟩).toArray⟩, .slice A L.length c] w fun e w' => ∃ b, e = .returned (sliV b L.length) ∧ w.heap.size ≤ b ∧ w'.heap[b]? = some (prtC L) ∧ Below w.heap.size w w' := by
  obtain ⟨i0, hi, hz0, hz1, hz2⟩ := info_parts infoStr
  have hsum : ∀ j, j ≤ L.length → posT k L j ≤ 5000000000000 := by
    intro j hj
    have h1 := formP_len (m := 1099511627776) (L := L.take j) fun p hp' => hp p (List.mem_of_mem_take hp')
    have h2 : (L.take j).length ≤ 4 := by rw [List.length_take]; omega
    have h3 : (L.take j).length * (8 + 1099511627776) ≤ 4 * (8 + 1099511627776) := Nat.mul_le_mul_right _ h2
    unfold posT
    rw [List.length_cons]
    omega
  have HS := Lib.hid hsum
  have HP := Lib.hid (fun j (hj : j < L.length) => (show (row L j).length ≤ 1099511627776 by rw [row_get hj]; exact hp _ (List.getElem_mem hj)))
  have HCA := Lib.hid (fun j (hj : j < L.length) => And.intro (cut_at (k := k) hj) (cut_in (k := k) hj))
  clear hsum
  obtain ⟨X, eX⟩ : ∃ X, X = formT ⟨k, L⟩ := ⟨_, rfl⟩
  rw [← eX] at HCA ⊢
  clear eX
  obtain ⟨n, en⟩ : ∃ n, n = L.length := ⟨_, rfl⟩
  have HN := Lib.hid en
  have hmk := run_mkF (P := Try.prog) 73 9 i0 Try.underlying73 hi hz0 rfl hz1 hz2 (l := (n : Int)) (n := n) rfl (by omega) (by omega) w
  have hm : OwnF (w.alloc (.cells (madeCells #[.string ByteArray.empty] n) 9)) w.heap.size 9 (some ⟨w.heap.size, 0, none⟩) n n (fun _ => .string ByteArray.empty) := OwnF.made 9 _ (Nat.le_refl _) (by unfold maxLen; omega)
  have hb0 : Below w.heap.size w (w.alloc (.cells (madeCells #[.string ByteArray.empty] n) 9)) := (Below.refl _ w).alloc (Nat.le_refl _) _
  rw [← en] at hl hn ⊢
  clear en
  go_enter Try.func52, Try.ntmps52
  go_wp2_with fail
  go_loopw [6, 14] (fun v i wr => ∃ j : Nat, j ≤ n ∧ i = .int .i64 j ∧ v = .int .i64 (posT k L j : Int) ∧ OwnF wr w.heap.size 9 (some ⟨w.heap.size, 0, none⟩) n n (cutF L j) ∧ Below w.heap.size w wr)
    (fun _ i _ => n - (intOf i).toNat)
  case atStart => exact ⟨0, Nat.zero_le _, rfl, rfl, hm, hb0⟩
  case round =>
    obtain ⟨j, hj, rfl, rfl, ho, hb⟩ := hrel
    clear hm hb0 hmk
    by_cases hlt : j < n
    · have hlt' : j < L.length := by rw [← HN.out]; exact hlt
      obtain ⟨b1, o1, rfl, hb1, Ak, ck, cc, rk⟩ := hr.at_ hlt'
      have g1 : (j : Int) < (n : Int) := by omega
      have cc2 : wr.cell? ⟨b1, o1 + j, none⟩ = some (.slice Ak (row L j).length ck) := (hb.cell (p := ⟨b1, o1 + j, none⟩) hb1).trans cc
      obtain ⟨h1, h2⟩ := HCA.out j hlt'
      have h3 := HP.out j hlt'
      have h4 := HS.out j (by omega)
      have e1 := ho.cell (k := j) hlt
      have e2 := ho.free j
      obtain ⟨m, em⟩ : ∃ m, m = (row L j).length := ⟨_, rfl⟩
      obtain ⟨q, eq⟩ : ∃ q, q = posT k L j := ⟨_, rfl⟩
      obtain ⟨x, ex⟩ : ∃ x, x = X.length := ⟨_, rfl⟩
      have hsz : (⟨X.toArray⟩ : ByteArray).size = x := by rw [ex]; exact List.size_toArray
      have hxt : (⟨X.toArray⟩ : ByteArray).extract (q + 8) (q + 8 + m) = ⟨(row L j).toArray⟩ := by
        rw [ext_take X (q + 8) (q + 8 + m) (by rw [em, eq]; exact h2), Nat.add_sub_cancel_left, em, eq, h1]
      have HP1 := Lib.hid (posT_succ (k := k) hlt')
      rw [← em] at cc2 h2 h3
      rw [← eq] at h4 h2
      rw [← ex] at h2
      rw [← em, ← eq] at HP1
      rw [← eq]
      have HR := Lib.hid (And.intro ho hb)
      have hsl : (Instr.slice 9 (.string ⟨X.toArray⟩) (some (.int .i64 ((q : Int) + 8))) (some (.int .i64 ((q : Int) + 8 + (m : Int)))) none).run Try.prog wr = .ok (.string ⟨(row L j).toArray⟩) wr := by
        have h := run_slice_string (P := Try.prog) (w := wr) 9 ⟨X.toArray⟩ .i64 .i64 ((q : Int) + 8) ((q : Int) + 8 + (m : Int)) Try.underlying9 (by omega) (by omega) (by rw [hsz]; omega)
        rw [h, show ((q : Int) + 8).toNat = q + 8 by omega, show ((q : Int) + 8 + (m : Int)).toNat = q + 8 + m by omega, hxt]
      clear hxt hsz
      clear cc rk h1 em eq ex ho hb hr hlt'
      go_wp2_with fail
      go_roundw
      case rel =>
        refine ⟨j + 1, by omega, by go_num, by rw [HP1.out]; go_num, (HR.out.1.set_ j _).congr fun i hi => ?_, HR.out.2.setCell (Nat.le_refl _) _⟩
        unfold cutF
        by_cases hij : i = j
        · subst hij
          rw [if_pos rfl, if_pos (by omega)]
        · rw [if_neg hij]
          by_cases h5 : i < j
          · rw [if_pos h5, if_pos (by omega)]
          · rw [if_neg h5, if_neg (by omega)]
      case measure => simp [intOf]; omega
    · have g1 : ¬ (j : Int) < (n : Int) := by omega
      obtain rfl : j = n := by omega
      go_wp2_with fail
      go_ret
      refine ⟨w.heap.size, rfl, Nat.le_refl _, ?_, hb⟩
      have hq := own_block ho
      rw [hq, HN.out, cutF_full]
end Go.Proofs.Ytdddcgkgellbgab
