/-
  Layer 19, the landed code: what a kind and parts are found by; the parts cut out of it again. By an AI agent.
-/
import Derived.Test.YtdddcgkgellbgabSu5
import Derived.Test.YtdddcgkgellbgabSu3
namespace Go.Proofs.Ytdddcgkgellbgab
open Go Go.RowKit
set_option maxRecDepth 20000
attribute [local irreducible] e8
theorem formP_succ {L : List (List UInt8)} {j : Nat} (h : j < L.length) : formP (L.take (j + 1)) = formP (L.take j) ++ e8 (row L j).length ++ row L j := by
  rw [List.take_succ_eq_append_getElem h, formP_app, row_get h]
  simp [formP]
theorem formP_len {m : Nat} : ∀ {L : List (List UInt8)}, (∀ p ∈ L, p.length ≤ m) → (formP L).length ≤ L.length * (8 + m)
  | [], _ => by simp [formP]
  | p :: r, h => by
    have h1 := h p (by simp)
    have h2 := formP_len (L := r) fun q hq => h q (by simp [hq])
    rw [formP, List.length_append, List.length_append, e8_len, List.length_cons, Nat.add_mul, Nat.one_mul]
    omega
set_option maxHeartbeats 800000 in
theorem form_any {k : UInt8} {L : List (List UInt8)} {A : Option Addr} {c : Nat} (w : World) (hr : Rds w w.heap.size A c L) (hl : L.length ≤ 4) (hp : ∀ p ∈ L, p.length ≤ 1099511627776) :
    Calls Try.prog 51 #[.int .u8 (k.toNat : Int), .slice A L.length c] w fun e w' => e = .returned (.string ⟨(formT ⟨k, L⟩).toArray⟩) ∧ Below w.heap.size w w' := by
  obtain ⟨i0, hi, hz0, hz1, hz2⟩ := info_parts infoByte
  have hsum : ∀ j, j ≤ L.length → (k :: formP (L.take j)).length ≤ 5000000000000 := by
    intro j hj
    have h1 := formP_len (m := 1099511627776) (L := L.take j) fun p hp' => hp p (List.mem_of_mem_take hp')
    have h2 : (L.take j).length ≤ 4 := by rw [List.length_take]; omega
    have h3 : (L.take j).length * (8 + 1099511627776) ≤ 4 * (8 + 1099511627776) := Nat.mul_le_mul_right _ h2
    rw [List.length_cons]
    omega
  have HS := Lib.hid hsum
  have HP := Lib.hid (fun j (hj : j < L.length) => (show (row L j).length ≤ 1099511627776 by rw [row_get hj]; exact hp _ (List.getElem_mem hj)))
  clear hsum
  have hm : Own (w.alloc (.cells #[.int .u8 (k.toNat : Int)] 5)) w.heap.size 5 (some ⟨w.heap.size, 0, none⟩) 1 [k] := Own.lit 5 (Nat.le_refl _) _ [k] (by simp [maxLen]) rfl
  have hb0 : Below w.heap.size w (w.alloc (.cells #[.int .u8 (k.toNat : Int)] 5)) := (Below.refl _ w).alloc (Nat.le_refl _) _
  go_enter Try.func51, Try.ntmps51
  go_wp2_with fail
  go_loopw [5, 12] (fun v i wr => ∃ j : Nat, j ≤ L.length ∧ i = .int .i64 j ∧ (∃ A c, v = .slice A (k :: formP (L.take j)).length c ∧ Own wr w.heap.size 5 A c (k :: formP (L.take j))) ∧ Below w.heap.size w wr)
    (fun _ i _ => L.length - (intOf i).toNat)
  case atStart => exact ⟨0, Nat.zero_le _, rfl, ⟨_, _, rfl, hm⟩, hb0⟩
  case round =>
    obtain ⟨j, hj, rfl, ⟨Av, cv, rfl, ho⟩, hb⟩ := hrel
    clear hm hb0
    by_cases hlt : j < L.length
    · obtain ⟨b1, o1, rfl, hb1, Ak, ck, cc, rk⟩ := hr.at_ hlt
      have g1 : (j : Int) < (L.length : Int) := by omega
      have cc2 : wr.cell? ⟨b1, o1 + j, none⟩ = some (.slice Ak (row L j).length ck) := (hb.cell (p := ⟨b1, o1 + j, none⟩) hb1).trans cc
      have rk2 := rk.keep hb
      have h40 := HP.out j hlt
      obtain ⟨m, em⟩ : ∃ m, m = (row L j).length := ⟨_, rfl⟩
      have HM := Lib.hid em
      have HR := Lib.hid rk2
      have HO := Lib.hid ho
      have HB := Lib.hid hb
      have HFS := Lib.hid (formP_succ hlt)
      have HS1 := HS.out j hj
      obtain ⟨X, eX⟩ : ∃ X, X = k :: formP (L.take j) := ⟨_, rfl⟩
      have HX := Lib.hid eX
      rw [← em] at cc2 h40
      rw [← eX] at HO HS1
      obtain ⟨xl, exl⟩ : ∃ xl, xl = X.length := ⟨_, rfl⟩
      have HXL := Lib.hid exl
      rw [← eX, ← exl]
      rw [← exl] at HS1
      clear cc rk rk2 em eX ho exl hb
      rw [HXL.out]
      rw [HXL.out] at HS1
      clear HXL
      have hk40 : m < 9223372036854775808 := by omega
      have hlen1 : X.length + (e8 m).length ≤ 140737488355328 := by rw [e8_len]; omega
      have HL1 := Lib.hid hlen1
      have HL2 := Lib.hid (show X.length + 8 + (row L j).length ≤ 140737488355328 by rw [← HM.out]; omega)
      clear hlen1
      go_wp2_with (first
        | (go_at_call 42; refine (eight_any hk40 wr).mono ?_; rintro e w2 ⟨Ae, ce, he, h8, b8⟩; obtain ⟨n8, en8⟩ : ∃ n : Nat, n = (e8 m).length := ⟨_, rfl⟩; rw [← e8_len m, ← en8] at he; subst he; have HN8 := Lib.hid en8; clear en8; have HO2 := Lib.hid (HO.out.keep b8); have HB8 := Lib.hid (HB.out.trans (b8.mono HB.out.size)); have HR8 := Lib.hid h8.rd; have HR2 := Lib.hid (HR.out.keep (b8.mono HB.out.size)); clear h8 b8)
        | (at_builtin; refine wpList_app _ rfl (.tmp 16) (.tmp 19) _ rfl w.heap.size 5 i0 _ Try.underlying31 hi hz0 hz1 hz2 rfl rfl HO2.out (congrArg (fun q => Value.slice Ae q ce) HN8.out) HR8.out HL1.out HB8.out.size ?_; intro Ap c3 w3 ho3 hb3; have HO3 := Lib.hid ho3; have HB3 := Lib.hid (HB8.out.trans hb3); have HR3 := Lib.hid (HR2.out.keep hb3); clear ho3 hb3)
        | (at_builtin; refine wpList_app _ rfl (.tmp 20) (.tmp 21) _ rfl w.heap.size 5 i0 _ Try.underlying31 hi hz0 hz1 hz2 rfl (congrArg (fun q => Value.slice Ap q c3) List.length_append.symm) HO3.out (congrArg (fun q => Value.slice Ak q ck) HM.out) HR3.out (by rw [List.length_append, e8_len]; exact HL2.out) HB3.out.size ?_; intro Aq c4 w4 ho4 hb4; have HO4 := Lib.hid ho4; have HB4 := Lib.hid (HB3.out.trans hb4); clear ho4 hb4))
      go_roundw
      case rel =>
        have hX : X ++ e8 m ++ row L j = k :: formP (L.take (j + 1)) := by rw [HX.out, HFS.out, HM.out]; simp
        refine ⟨j + 1, by omega, by go_num, ⟨Aq, c4, by rw [← hX]; simp, by rw [← hX]; exact HO4.out⟩, HB4.out⟩
      case measure => simp [intOf]; omega
    · have g1 : ¬ (j : Int) < (L.length : Int) := by omega
      obtain rfl : j = L.length := by omega
      rw [List.take_length] at *
      obtain ⟨X, eX⟩ : ∃ X, X = k :: formP L := ⟨_, rfl⟩
      have HX := Lib.hid eX
      rw [← eX] at ho ⊢
      clear eX
      have hs := run_str (P := Try.prog) wr 31 5 Try.underlying31 Try.underlying5 (dst := 9) Try.underlying9 ho.rd
      go_wp2_with fail
      go_ret
      exact ⟨by rw [HX.out]; rfl, hb⟩
end Go.Proofs.Ytdddcgkgellbgab
