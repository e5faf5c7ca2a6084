/-
  bytes.Compare, over internal/bytealg's own. By an AI agent.
-/
import Derived.Test.YtdddcgkgellbgabSv7
import Derived.Lib.Bytealg
namespace Go.Proofs.Ytdddcgkgellbgab
open Go Go.RowKit
set_option maxRecDepth 20000
theorem load_bytes {P : Program} (w : World) : ∀ (l : List UInt8) (a : Addr) (acc : ByteArray), (∀ k (hk : k < l.length), w.cell? (a.add k) = some (.int .u8 (l[k].toNat : Int))) → (Extern.Bytes.loadBytes a l.length acc).run P w = .ok (⟨acc.data ++ l.toArray⟩) w
  | [], a, acc, _ => by
    simp [Extern.Bytes.loadBytes]
  | x :: r, a, acc, h => by
    have h0 := h 0 (by simp)
    rw [show a.add 0 = a by simp [Addr.add]] at h0
    have hr := load_bytes (P := P) w r (a.add 1) (acc.push x) (fun k hk => by
      have := h (k + 1) (by simp; omega)
      rw [show (a.add 1).add k = a.add (k + 1) by simp [Addr.add, Nat.add_assoc, Nat.add_comm 1 k]]
      simpa using this)
    rw [List.length_cons, Extern.Bytes.loadBytes, Sem.run_bind]
    have hl : (load a).run P w = .ok (.int .u8 (x.toNat : Int)) w := by
      have h0' : w.cell? a = some (.int .u8 (x.toNat : Int)) := h0
      go_simp
    rw [hl]
    show (Extern.Bytes.loadBytes (a.add 1) r.length (acc.push ((x.toNat : Int).toNat.toUInt8))).run P w = _
    rw [show ((x.toNat : Int).toNat.toUInt8) = x by simp, hr]
    congr 2
    simp [ByteArray.push]
theorem compare_less : ∀ a b : List UInt8, (0 < Lib.compareBytes a b) ↔ Op.bytesLess b a = true
  | [], [] => by simp [Lib.compareBytes, Op.bytesLess]
  | [], _ :: _ => by simp [Lib.compareBytes, Op.bytesLess]
  | _ :: _, [] => by simp [Lib.compareBytes, Op.bytesLess]
  | x :: r, y :: s => by
    have ih := compare_less r s
    unfold Lib.compareBytes Op.bytesLess
    by_cases h1 : x < y
    · have h2 : ¬ y < x := fun h => absurd (UInt8.lt_trans h1 h) (UInt8.lt_irrefl _)
      have h3 : (y == x) = false := by rw [beq_eq_false_iff_ne]; rintro rfl; exact UInt8.lt_irrefl _ h1
      simp [h1, h2, h3]
    · by_cases h2 : y < x
      · simp [h1, h2]
      · have e : y = x := UInt8.le_antisymm (UInt8.not_lt.1 h1) (UInt8.not_lt.1 h2)
        subst e
        simp [h1, ih]
theorem compare_any {A A2 : Option Addr} {c c2 : Nat} {a b : List UInt8} (w : World) (h1 : Rd w w.heap.size A c a) (h2 : Rd w w.heap.size A2 c2 b) :
    Calls Try.prog 44 #[.slice A a.length c, .slice A2 b.length c2] w fun e w' => e = .returned (.int .i64 (Lib.compareBytes a b)) ∧ w' = w := by
  have hb : ∀ (A : Option Addr) (c : Nat) (l : List UInt8), Rd w w.heap.size A c l → (Extern.Bytes.bytesOf (.slice A l.length c)).run Try.prog w = .ok ⟨l.toArray⟩ w := by
    intro A c l hl
    rcases A with _ | ad
    · obtain ⟨rfl, rfl⟩ := hl.nil rfl
      rfl
    · have := load_bytes (P := Try.prog) w l ad .empty (fun k hk => by
        have h3 := hl.cells rfl k (.int .u8 (l[k].toNat : Int)) (by simp [hk])
        exact h3)
      unfold Extern.Bytes.bytesOf
      rw [this]
      congr 2
      simp [ByteArray.empty, ByteArray.emptyWithCapacity]
      try rfl
  have hc : (Extern.BytealgCompare.compare #[.slice A a.length c, .slice A2 b.length c2]).run Try.prog w = .ok (.int .i64 (Lib.compareBytes a b)) w := by
    change Sem.run Try.prog (do pure (goInt (Extern.BytealgCompare.cmp (← Extern.Bytes.bytesOf (.slice A a.length c)) (← Extern.Bytes.bytesOf (.slice A2 b.length c2))))) w = _
    rw [Sem.run_bind, hb A c a h1, Result.andThen_ok, Sem.run_bind, hb A2 c2 b h2, Result.andThen_ok, Sem.run_pure, Lib.cmp_eq]
    rfl
  have HC := Lib.hid hc
  clear hc hb h1 h2
  go_enter Try.func44, Try.ntmps44
  go_wp2
  rw [run_callFunc_extern Try.func55 (by kernel_rfl) (by kernel_rfl) (by kernel_rfl) (e := Extern.BytealgCompare.compare) (by kernel_rfl), HC.out]
  simp only [Result.andThen]
  rw [Oper.upon_value]
  go_wp2
  go_ret
  exact ⟨rfl, rfl⟩
end Go.Proofs.Ytdddcgkgellbgab
