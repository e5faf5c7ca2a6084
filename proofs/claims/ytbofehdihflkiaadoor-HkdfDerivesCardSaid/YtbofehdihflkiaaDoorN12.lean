/-
  The document's numbers, Small, Great, Sum256, Sum512 (layer 6). By an AI agent.
-/
import Derived.Test.YtbofehdihflkiaaDoorN11
namespace Go.Proofs.YtbofehdihflkiaaDoor
open Go Go.RowKit
def numv (e bits p : Nat) : Nat := if bits = 32 then gr p e 80 % 18446744073709551616 / 4294967296 else gr p e 80 % 18446744073709551616
theorem numv_lt (e p : Nat) {bits : Nat} (hb : bits = 32 ∨ bits = 64) : numv e bits p < 2 ^ bits := by
  unfold numv
  rcases hb with rfl | rfl
  · rw [if_pos rfl]; omega
  · rw [if_neg (by decide)]; omega
theorem map_at (L : List Nat) (f : Nat → Nat) {k : Nat} (h : k < L.length) : (L.map f).getD k 0 = f (L.getD k 0) := by
  simp [List.getD, h]
theorem pr_small {s k : Nat} (hs : s ≤ 1000) (hk : k < (pr s).length) : (pr s).getD k 0 < 65536 := by
  have := pr_mem s ((pr s).getD k 0) (by rw [List.getD_eq_getElem?_getD, List.getElem?_eq_getElem hk]; exact List.getElem_mem hk)
  omega
attribute [local irreducible] gr pr
set_option maxRecDepth 20000
set_option maxHeartbeats 1600000 in
theorem numbers_any {n s e bits : Nat} (hs : (pr s).length = n) (hlt : ∀ t, t < s → (pr t).length < n) (hs1 : s ≤ 1000) (he : e = 2 ∨ e = 3) (hb : bits = 32 ∨ bits = 64) (w : World) :
    Calls Tryd.prog 31 #[.int .i64 (n : Int), .int .i64 (e : Int), .int .i64 (bits : Int)] w fun en w' => ∃ A c, en = .returned (.slice A n c) ∧ OwnF w' w.heap.size 54 A c n (uv ((pr s).map (numv e bits))) ∧ Below w.heap.size w w' := by
  obtain ⟨i0, hi, hz0, hz1, hz2⟩ := info_parts infoU64
  have KP := Lib.hid (fun w => primes_any hs hlt hs1 w)
  have hps := fun k hk => pr_small (s := s) (k := k) hs1 hk
  rw [hs] at hps
  have HPS := Lib.hid hps
  have hmp : ∀ k, k < n → ((pr s).map (numv e bits)).getD k 0 = numv e bits ((pr s).getD k 0) := fun k hk => map_at _ _ (by omega)
  have HMP := Lib.hid hmp
  have hn1 : n ≤ 1000 := by have := pr_len_le s; omega
  clear hs hlt hps hmp
  go_enter Tryd.func31, Tryd.ntmps31
  go_wp2_with fail
  go_at_call 37
  refine (KP.out _).mono ?_
  rintro en v1 ⟨A1, c1, rfl, o1, hc⟩
  have r1 := o1.rd
  clear o1 KP
  go_wp2_with fail
  go_loopw [7, 9] (fun v i wr => ∃ k : Nat, k ≤ n ∧ i = .int .i64 (k : Int) ∧ (∃ A c, v = .slice A k c ∧ OwnF wr v1.heap.size 54 A c k (uv ((pr s).map (numv e bits)))) ∧ Below v1.heap.size v1 wr)
    (fun _ i _ => n - (intOf i).toNat)
  case atStart => exact ⟨0, by omega, rfl, ⟨none, 0, rfl, OwnF.nothing _ _ _ _⟩, Below.refl _ _⟩
  case round =>
    obtain ⟨k, hk, rfl, ⟨A, c, rfl, os⟩, hb1⟩ := hrel
    have hws : v1.heap.size ≤ wr.heap.size := hb1.size
    by_cases hkn : k < n
    · have g1 : (k : Int) < (n : Int) := by omega
      obtain ⟨b1, o1, rfl, _, cc⟩ := (r1.keep hb1).at_ hkn
      unfold iv at cc
      have hp := HPS.out k hkn
      have hv := HMP.out k hkn
      generalize (pr s).getD k 0 = p at *
      have KR := Lib.hid (fun w => root_any hp he w)
      have hv2 : Value.int .u64 ((numv e bits p : Nat) : Int) = uv ((pr s).map (numv e bits)) k := by unfold uv; rw [hv]
      have HV := Lib.hid hv2
      have hnb := numv_lt e p hb
      have hnum : numv e bits p = if bits = 32 then gr p e 80 % 18446744073709551616 / 4294967296 else gr p e 80 % 18446744073709551616 := rfl
      generalize gr p e 80 % 18446744073709551616 = x at *
      clear hv hv2 hp
      go_wp2_with fail
      go_at_call 38
      refine (KR.out _).mono ?_
      rintro en w2 ⟨rfl, h0⟩
      have os2 := OwnF.keep os (h0.mono (Nat.le_refl _))
      have hb2 := hb1.trans (h0.mono hb1.size)
      have hws2 := Nat.le_trans hws h0.size
      clear KR os
      by_cases h32 : bits = 32
      · rw [if_pos h32] at hnum
        have g3 : ((bits : Int) == 32) = true := by rw [h32]; rfl
        have hx : (x : Int) / 4294967296 = (numv e bits p : Int) := by omega
        have hx' : (x : Int).tdiv 4294967296 = (numv e bits p : Int) := by rw [Int.tdiv_eq_ediv_of_nonneg (by omega), hx]
        have hxw : IntKind.u64.wrap (numv e bits p : Int) = (numv e bits p : Int) := by
          rw [h32] at hnb ⊢; rw [IntKind.wrap_u64]; omega
        generalize numv e bits p = r at *
        clear hnum h32 hnb
        go_wp2_with (at_builtin; refine wpList_appF1 _ rfl (.tmp 29) (.tmp 31) _ rfl v1.heap.size 54 i0 _ Tryd.underlying44 hi hz0 hz1 hz2 (by decide) rfl rfl os2 HV.out rfl rfl (by omega) (by omega) hws2 ?_; intro A' c' w' ho' hb')
        exact ⟨⟨k + 1, by omega, by go_num, ⟨A', c', rfl, ho'⟩, hb2.trans hb'⟩, by simp [intOf]; omega⟩
      · rw [if_neg h32] at hnum
        have g3 : ((bits : Int) == 32) = false := by simp; omega
        rw [hnum] at HV
        clear h32 hnb
        go_wp2_with (at_builtin; refine wpList_appF1 _ rfl (.tmp 29) (.tmp 31) _ rfl v1.heap.size 54 i0 _ Tryd.underlying44 hi hz0 hz1 hz2 (by decide) rfl rfl os2 HV.out rfl rfl (by omega) (by omega) hws2 ?_; intro A' c' w' ho' hb')
        exact ⟨⟨k + 1, by omega, by go_num, ⟨A', c', rfl, ho'⟩, hb2.trans hb'⟩, by simp [intOf]; omega⟩
    · obtain rfl : k = n := by omega
      have g1 : ¬ (k : Int) < (k : Int) := by omega
      go_wp2_with fail
      go_ret
      exact ⟨A, c, rfl, os.mono hc.size, hc.trans (hb1.mono hc.size)⟩
def smallS : Ks := ⟨32, 64, (2, 13, 22), (6, 11, 25), (7, 18, 3), (17, 19, 10), (pr 310).map (numv 3 32), (pr 18).map (numv 2 32)⟩
def greatS : Ks := ⟨64, 80, (28, 34, 39), (14, 18, 41), (1, 8, 7), (19, 61, 6), (pr 408).map (numv 3 64), (pr 18).map (numv 2 64)⟩
theorem map_lt (L : List Nat) (f : Nat → Nat) {b : Nat} (hf : ∀ p, f p < b) (hb : 0 < b) (k : Nat) : (L.map f).getD k 0 < b := by
  by_cases h : k < L.length
  · rw [map_at L f h]; exact hf _
  · simp [List.getD, Nat.le_of_not_lt h, hb]
theorem len64 : (pr 310).length = 64 ∧ ∀ t, t < 310 → (pr t).length < 64 := by decide +kernel
theorem len80 : (pr 408).length = 80 ∧ ∀ t, t < 408 → (pr t).length < 80 := by decide +kernel
theorem len8 : (pr 18).length = 8 ∧ ∀ t, t < 18 → (pr t).length < 8 := by decide +kernel
theorem smallOk : Kok smallS := ⟨.inl rfl, by decide, by decide, by decide, by decide, by decide, ⟨by rw [show smallS.keys = (pr 310).map (numv 3 32) from rfl, List.length_map]; exact len64.1, map_lt _ _ (fun p => numv_lt 3 p (.inl rfl)) (by decide)⟩, ⟨by rw [show smallS.first = (pr 18).map (numv 2 32) from rfl, List.length_map]; exact len8.1, map_lt _ _ (fun p => numv_lt 2 p (.inl rfl)) (by decide)⟩⟩
theorem greatOk : Kok greatS := ⟨.inr rfl, by decide, by decide, by decide, by decide, by decide, ⟨by rw [show greatS.keys = (pr 408).map (numv 3 64) from rfl, List.length_map]; exact len80.1, map_lt _ _ (fun p => numv_lt 3 p (.inr rfl)) (by decide)⟩, ⟨by rw [show greatS.first = (pr 18).map (numv 2 64) from rfl, List.length_map]; exact len8.1, map_lt _ _ (fun p => numv_lt 2 p (.inr rfl)) (by decide)⟩⟩
end Go.Proofs.YtbofehdihflkiaaDoor
