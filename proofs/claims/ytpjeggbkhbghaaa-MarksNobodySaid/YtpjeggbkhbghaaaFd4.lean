/-
  Layer 15, the document's kids: what hangs below one, by rising names. By an AI agent.
-/
import Derived.Test.YtpjeggbkhbghaaaFd2
import Derived.Test.YtpjeggbkhbghaaaSb
namespace Go.Proofs.Ytpjeggbkhbghaaa
open Go Go.RowKit
set_option maxRecDepth 20000
theorem infoIns : (Try.prog.info? 74).map (fun i => (i.zero, i.size, i.bytes)) = some (some (.agg #[.int .i64 0, .int .i64 0, .int .i64 0, .int .i64 0, .bool false, .int .i32 0]), 6, 40) := by kernel_rfl
theorem infoNod : (Try.prog.info? 77).map (fun i => (i.zero, i.size, i.bytes)) = some (some (.agg #[.int .i64 0, .int .i64 0, .int .i32 0, .bool false]), 4, 24) := by kernel_rfl
theorem infoId : (Try.prog.info? 27).map (fun i => (i.zero, i.size, i.bytes)) = some (some (.agg #[.int .i64 0, .int .i64 0]), 2, 16) := by kernel_rfl
theorem take_snoc {α : Type} {L : List α} {k : Nat} {x : α} (h : L[k]? = some x) : L.take (k + 1) = L.take k ++ [x] := by rw [List.take_add_one, h]; rfl
theorem insK_len (x : Ins) (l : List Ins) : (insK x l).length = l.length + 1 := by
  unfold insK
  rw [List.length_append, List.length_cons]
  induction l with
  | nil => rfl
  | cons y r ih =>
    rw [List.filter_cons, List.filter_cons]
    cases idLt y.id x.id <;> simp at ih ⊢ <;> omega
theorem kids_len (p : IDt) (s : Bool) : ∀ {n : Nat} {L : List Ins}, L.length = n → (kidsL L p s).length ≤ n := by
  intro n
  induction n with
  | zero =>
    intro L h
    rw [List.length_eq_zero_iff.1 h]
    exact Nat.le_refl _
  | succ n ih =>
    intro L h
    have hne : L ≠ [] := by rintro rfl; simp at h
    rw [← List.dropLast_concat_getLast hne, kidsL_snoc]
    have h2 : L.dropLast.length = n := by rw [List.length_dropLast, h]; rfl
    have := ih h2
    split
    · rw [insK_len]; omega
    · omega
theorem filt_snoc {α : Type} (p : α → Bool) {K : List α} {q : Nat} {y : α} (h : K[q]? = some y) : (K.take (q + 1)).filter p = (K.take q).filter p ++ (if p y then [y] else []) := by
  rw [take_snoc h, List.filter_append]
  cases hp : p y <;> simp [hp]
theorem filt_len {α : Type} (p : α → Bool) (K : List α) (q : Nat) : ((K.take q).filter p).length ≤ K.length := Nat.le_trans (List.length_filter_le _ _) (by rw [List.length_take]; omega)
def ltx (x y : Ins) : Bool := idLt y.id x.id
def gex (x y : Ins) : Bool := !idLt y.id x.id
theorem insK_eq (x : Ins) (l : List Ins) : insK x l = l.filter (ltx x) ++ [x] ++ l.filter (gex x) := by
  unfold insK
  rw [List.append_assoc]
  rfl
theorem kids_off {L : List Ins} {m : Nat} {x : Ins} {p : IDt} {s : Bool} (h : L[m]? = some x) (hh : hangs p s x = false) : kidsL (L.take (m + 1)) p s = kidsL (L.take m) p s := by
  rw [take_snoc h, kidsL_snoc, if_neg (by rw [hh]; decide)]
theorem kids_on {L : List Ins} {m : Nat} {x : Ins} {p : IDt} {s : Bool} (h : L[m]? = some x) (hh : hangs p s x = true) : kidsL (L.take (m + 1)) p s = insK x (kidsL (L.take m) p s) := by
  rw [take_snoc h, kidsL_snoc, if_pos hh]
end Go.Proofs.Ytpjeggbkhbghaaa
