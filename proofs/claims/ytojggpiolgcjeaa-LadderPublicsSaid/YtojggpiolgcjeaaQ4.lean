/-
  The document's Shared (layer 5). By an AI agent.
-/
import Derived.Test.YtojggpiolgcjeaaQ3
namespace Go.Proofs.Ytojggpiolgcjeaa
open Go Go.RowKit
attribute [local irreducible] wd by8 d16 set16w fl vk
set_option maxRecDepth 20000
theorem rshared_len {A A' : Option Addr} {n n' c c' : Nat} (hn : n ≠ 32 ∨ n' ≠ 32) (w : World) :
    Calls Try.prog 18 #[.slice A n c, .slice A' n' c'] w fun e w' => e = .returned (.tuple #[.slice none 0 0, .int .i64 1]) ∧ Below w.heap.size w w' := by
  have K := Lib.hid (rmult_len (A := A) (A' := A') (c := c) (c' := c') hn w)
  clear hn
  go_enter Try.func18, Try.ntmps18
  go_wp2_with fail
  go_at_call 14
  refine K.out.mono ?_
  rintro e v1 ⟨rfl, h0⟩
  go_wp2_with fail
  refine bodyPost_ret (v := .tuple #[.slice none 0 0, .int .i64 1]) (by simp [results, Try.results18, go_sem]) rfl ⟨rfl, h0⟩
set_option maxHeartbeats 800000 in
theorem rshared_any {A A' : Option Addr} {B c c' : Nat} {bs us : List UInt8} (h32 : bs.length = 32) (u32 : us.length = 32) (w : World) (hr : Rd w B A c bs) (hu : Rd w B A' c' us) (hB : B ≤ w.heap.size) {Y : Nat} (hY : Y = ladderN (vb us % 2 ^ 255 % P25) (clam (vb bs))) :
    Calls Try.prog 18 #[.slice A 32 c, .slice A' 32 c'] w fun e w' => (if Y = 0 then e = .returned (.tuple #[.slice none 0 0, .int .i64 8]) else ∃ A c, e = .returned (.tuple #[.slice A 32 c, .int .i64 0]) ∧ Rd w' w'.heap.size A c (gen (bf Y) 32)) ∧ Below w.heap.size w w' := by
  have k := rmult_any h32 u32 w hr hu hB
  rw [← hY] at k
  have hYW : Y < W4 := by rw [hY]; exact Nat.lt_trans (ladderN_lt _ _) P25_W4
  have K := Lib.hid k
  clear k hY hr hu hB h32 u32
  obtain ⟨out, hout⟩ : ∃ o, o = gen (bf Y) 32 := ⟨_, rfl⟩
  have hrd : ∀ {A : Option Addr} {c : Nat} (w : World), Rd w w.heap.size A c out → Calls Try.prog 25 #[.slice A 32 c] w fun e w' => ∃ A c n, e = .returned (.slice A n c) ∧ DOwn w' w.heap.size A c n Y ∧ Below w.heap.size w w' := fun w h => lread_any hYW w (hout ▸ h) (Nat.le_refl _)
  rw [← hout] at K ⊢
  clear hout
  by_cases h0 : Y = 0
  · simp only [if_pos h0]
    go_enter Try.func18, Try.ntmps18
    go_wp2_with fail
    go_at_call 14
    refine K.out.mono ?_
    rintro e v1 ⟨A1, c1, rfl, r1, hb⟩
    go_wp2_with fail
    go_at_call 25
    refine (hrd _ r1).mono ?_
    rintro e v2 ⟨A2, c2, n2, rfl, d2, h2⟩
    obtain rfl : n2 = 0 := Nat.le_zero.1 (d2.can 0 (by rw [h0]; decide))
    replace hb := hb.trans (h2.mono hb.size)
    clear d2 r1 h2 hrd K
    go_wp2_with fail
    refine bodyPost_ret (v := .tuple #[.slice none 0 0, .int .i64 8]) (by simp [results, Try.results18, go_sem]) rfl ⟨rfl, hb⟩
  · simp only [if_neg h0]
    go_enter Try.func18, Try.ntmps18
    go_wp2_with fail
    go_at_call 14
    refine K.out.mono ?_
    rintro e v1 ⟨A1, c1, rfl, r1, hb⟩
    go_wp2_with fail
    go_at_call 25
    refine (hrd _ r1).mono ?_
    rintro e v2 ⟨A2, c2, n2, rfl, d2, h2⟩
    have hn : n2 ≠ 0 := fun e => h0 (by have := d2.lt; rw [e] at this; simpa using this)
    have g1 : ((n2 : Int) == 0) = false := by simp; omega
    have g2 : ¬ (n2 : Int) = 0 := by omega
    have r2 := (r1.keep h2).mono h2.size
    replace hb := hb.trans (h2.mono hb.size)
    clear d2 r1 h2 hrd K
    go_wp2_with fail
    refine bodyPost_ret (v := .tuple #[.slice A1 32 c1, .int .i64 0]) (by simp [results, Try.results18, go_sem]) rfl ⟨⟨_, _, rfl, r2⟩, hb⟩
end Go.Proofs.Ytojggpiolgcjeaa
