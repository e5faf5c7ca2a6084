/-
  Layer 10's code: Xor. By an AI agent.
-/
import Derived.Test.YtmhfkabpfkoocaaDoorTY
import Derived.Test.YtmhfkabpfkoocaaDoorY5
import Derived.Test.YtmhfkabpfkoocaaDoorCp
import Derived.Test.YtmhfkabpfkoocaaDoorTS
namespace Go.Proofs.YtmhfkabpfkoocaaDoor
open Go Go.RowKit
set_option maxRecDepth 20000
/-- Bytes of which the first have been exclusive-ored. -/
def xpf (key nonce : List UInt8) (ctr : Nat) (bs : List UInt8) (p k : Nat) : Value := if k < p then xrv key nonce ctr bs k else bvf bs k
theorem xpf_zero (key nonce : List UInt8) (ctr : Nat) (bs : List UInt8) (k : Nat) : bvf bs k = xpf key nonce ctr bs 0 k := by unfold xpf; rw [if_neg (by omega)]
theorem xpf_full (key nonce : List UInt8) (ctr : Nat) (bs : List UInt8) {p k : Nat} (h : k < p) : xpf key nonce ctr bs p k = xrv key nonce ctr bs k := by unfold xpf; rw [if_pos h]
theorem xpf_at (key nonce : List UInt8) (ctr : Nat) (bs : List UInt8) (p : Nat) : xpf key nonce ctr bs p p = .int .u8 ((nth bs p : Nat) : Int) := by unfold xpf; rw [if_neg (by omega)]; rfl
theorem xpf_step (key nonce : List UInt8) (ctr : Nat) (bs : List UInt8) (p j : Nat) : (if j = p then xrv key nonce ctr bs p else xpf key nonce ctr bs p j) = xpf key nonce ctr bs (p + 1) j := by
  unfold xpf
  by_cases h : j = p
  · subst h; rw [if_pos rfl, if_pos (by omega)]
  · rw [if_neg h]
    by_cases h2 : j < p
    · rw [if_pos h2, if_pos (by omega)]
    · rw [if_neg h2, if_neg (by omega)]
theorem nblk_63 (n : Nat) : (n + 63) / 64 = nblk n := by unfold nblk; split <;> omega
section
attribute [local irreducible] wle stN rl setA blkB obf blF
set_option maxHeartbeats 3200000 in
theorem Xor_bad {kl nl k0 k1 ctr n c2 : Nat} (h : kl ≠ 32 ∨ nl ≠ 12) {A0 A1 A2 : Option Addr} (w : World) :
    Calls Tryd.prog 16 #[.slice A0 kl k0, .slice A1 nl k1, .int .u32 (ctr : Int), .slice A2 n c2] w fun e w' => e = .returned (.tuple #[.slice none 0 0, .int .i64 1]) ∧ Below w.heap.size w w' := by
  have KB := Lib.hid (begin_bad (k0 := k0) (k1 := k1) h (A0 := A0) (A1 := A1) w)
  clear h
  go_enter Tryd.func16, Tryd.ntmps16
  go_wp2_with fail
  go_at_call 26
  refine KB.out.mono ?_
  rintro e v1 ⟨rfl, hc⟩
  have o1 := OwnF.lit (w := v1) (B := w.heap.size) 43 hc.size ZC16 16 (fun _ => .int .u32 0) (by decide) (by kernel_rfl)
  have h2 := (Below.refl v1.heap.size v1).alloc (Nat.le_refl _) (.cells ZC16 43)
  have h3 := (av_only (v1.alloc (.cells ZC16 43)) v1.heap.size 0 16 (fun _ => .int .u32 0)).below (Nat.le_refl _)
  have HB := Lib.hid (hc.trans ((h2.trans h3).mono hc.size))
  clear h2 h3 hc KB
  go_wp2_with ((with_reducible refine av_store (off := 0) o1 ty16s (by decide) (fun _ => .int .u32 0) (fun k _ => rfl) ?_ ?_ ?_); rfl; rfl)
  go_returns
  exact ⟨rfl, HB.out⟩
theorem room_nums {L ctr : Nat} (hL : L ≤ 1000000000) (hc : ctr < 4294967296) : ∃ l64 l63 room : Nat, IntKind.u64.wrap (L : Int) = (L : Int) ∧ IntKind.u64.wrap ((L : Int) + 64) = (l64 : Int) ∧ IntKind.u64.wrap ((l64 : Int) - 1) = (l63 : Int) ∧ (l63 : Int).tdiv 64 = ((nblk L : Nat) : Int) ∧ IntKind.u64.wrap ((nblk L : Nat) : Int) = ((nblk L : Nat) : Int) ∧ IntKind.u64.wrap (ctr : Int) = (ctr : Int) ∧ IntKind.u64.wrap (4294967296 - (ctr : Int)) = (room : Int) ∧ room = 4294967296 - ctr := by
  have hn := nblk_63 L
  refine ⟨L + 64, L + 63, 4294967296 - ctr, ?_, ?_, ?_, ?_, ?_, ?_, ?_, rfl⟩
  · rw [IntKind.wrap_u64]; omega
  · rw [IntKind.wrap_u64]; omega
  · rw [IntKind.wrap_u64]; omega
  · rw [Int.tdiv_eq_ediv_of_nonneg (by omega), ← hn]; omega
  · rw [IntKind.wrap_u64, ← hn]; omega
  · rw [IntKind.wrap_u64]; omega
  · rw [IntKind.wrap_u64]; omega
set_option maxHeartbeats 3200000 in
theorem Xor_long {key nonce : List UInt8} {L ctr c2 : Nat} (hk : key.length = 32) (hn : nonce.length = 12) (hctr : ctr < 4294967296) (hl : L ≤ 1000000000) (hnb : ¬ nblk L ≤ 4294967296 - ctr) {A0 A1 A2 : Option Addr} {B k0 k1 : Nat} (w : World) (r0 : Rd w B A0 k0 key) (r1 : Rd w B A1 k1 nonce) (hB : B ≤ w.heap.size) :
    Calls Tryd.prog 16 #[.slice A0 32 k0, .slice A1 12 k1, .int .u32 (ctr : Int), .slice A2 L c2] w fun e w' => e = .returned (.tuple #[.slice none 0 0, .int .i64 2]) ∧ Below w.heap.size w w' := by
  have KB := Lib.hid (begin_any hk hn w r0 r1 hB)
  obtain ⟨l64, l63, room, q1, q2, q3, q4, q5, q6, q7, q8⟩ := room_nums hl hctr
  generalize nblk L = nb at *
  have q9 : (room : Int) < (nb : Int) := by omega
  clear hk hn r0 r1 hB hctr hl hnb q8
  obtain ⟨s, es⟩ : ∃ s, s = stN key nonce 0 := ⟨_, rfl⟩
  rw [← es] at KB
  clear es
  go_enter Tryd.func16, Tryd.ntmps16
  go_wp2_with fail
  go_at_call 26
  refine KB.out.mono ?_
  rintro e v1 ⟨rfl, hc⟩
  have o1 := OwnF.lit (w := v1) (B := w.heap.size) 43 hc.size ZC16 16 (fun _ => .int .u32 0) (by decide) (by kernel_rfl)
  have h2 := (Below.refl v1.heap.size v1).alloc (Nat.le_refl _) (.cells ZC16 43)
  have h3 := (av_only (v1.alloc (.cells ZC16 43)) v1.heap.size 0 16 (wvf s)).below (Nat.le_refl _)
  have HB := Lib.hid (hc.trans ((h2.trans h3).mono hc.size))
  clear h2 h3 hc KB
  go_wp2_with ((with_reducible refine av_store (off := 0) o1 ty16s (by decide) (wvf s) (fun k _ => wvf_one _ k) ?_ ?_ ?_); rfl; rfl)
  go_returns
  exact ⟨rfl, HB.out⟩
end
end Go.Proofs.YtmhfkabpfkoocaaDoor
