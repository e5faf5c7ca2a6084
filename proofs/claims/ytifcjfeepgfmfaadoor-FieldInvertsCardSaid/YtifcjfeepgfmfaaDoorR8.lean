import Derived.Test.YtifcjfeepgfmfaaDoorR7
namespace Go.Proofs.YtifcjfeepgfmfaaDoor
open Go Go.RowKit
theorem gl_len (f : Nat → Nat) : (gl f).length = 16 := by simp [gl]
theorem gl_get {f : Nat → Nat} {k : Nat} (h : k < 16) : (gl f)[k]? = some (nvf f k) := by simp [gl, nvf, h]
section
variable {ops : Array Oper} {rest : List Oper} {a : Act} {w : World} {Q : Exit → Act → World → Prop} {B g : Nat} {f : Nat → Nat} {dst : Option Nat} {tp : TypeId} {ps : String} {af : Array Edge} {x y : Operand}
theorem gl_load (o : OwnF w B 26 (some ⟨g, 0, none⟩) 16 16 (nvf f)) (hx : a.eval x = .pointer (some ⟨g, 0, none⟩)) (h : wpList Tryd.prog ops Q rest (a.put dst (.agg (gl f).toArray)) w) : wpList Tryd.prog ops Q (⟨dst, .load 26 x, tp, ps, af, none⟩ :: rest) a w :=
  wpList_load_mid rfl _ x rfl g 0 hx (gl f) _ (OwnF.range o (by rw [gl_len]; exact Nat.le_refl _) fun k hk => gl_get (by rwa [gl_len] at hk)) f_arr rfl (by rw [gl_len]; exact f_info) h
end
theorem val_add (f g : Nat → Nat) : ∀ n, val 0 (fun j => f j + g j) n = val 0 f n + val 0 g n
  | 0 => rfl
  | n + 1 => by rw [val, val, val, val_add f g n, Nat.mul_add]; omega
theorem val_bump (f : Nat → Nat) (m e : Nat) : ∀ n, val 0 (fun j => if j = m then f j + e else f j) n = val 0 f n + if m < n then 65536 ^ m * e else 0
  | 0 => by simp [val]
  | n + 1 => by
    rw [val, val, val_bump f m e n]
    by_cases h : n = m
    · subst h; rw [if_pos rfl, if_neg (by omega), if_pos (by omega), Nat.mul_add]; omega
    · rw [if_neg h]
      by_cases h2 : m < n
      · rw [if_pos h2, if_pos (by omega)]; omega
      · rw [if_neg h2, if_neg (by omega)]; omega
theorem val_split (f : Nat → Nat) (m : Nat) : ∀ n, val 0 f (m + n) = val 0 f m + 65536 ^ m * val 0 (fun j => f (m + j)) n
  | 0 => by simp [val]
  | n + 1 => by rw [← Nat.add_assoc, val, val_split f m n, val, Nat.mul_add, Nat.pow_add, Nat.mul_assoc]; omega
theorem val_scale (c : Nat) (f : Nat → Nat) : ∀ n, val 0 (fun j => c * f j) n = c * val 0 f n
  | 0 => rfl
  | n + 1 => by rw [val, val, val_scale c f n, Nat.mul_add, Nat.mul_left_comm]
/-- A product's digits folded: 2^256 counts as 38. -/
def fold (D : Nat → Nat) (j : Nat) : Nat := D j + if j + 16 < 31 then 38 * D (j + 16) else 0
theorem fold_val (D : Nat → Nat) : val 0 (fold D) 16 % P25 = val 0 D 31 % P25 := by
  have e1 : val 0 (fold D) 16 = val 0 D 16 + 38 * val 0 (fun j => D (16 + j)) 15 := by
    have h1 : val 0 (fold D) 16 = val 0 (fun j => D j + (if j + 16 < 31 then 38 * D (j + 16) else 0)) 16 := rfl
    have h2 : val 0 (fun j => if j + 16 < 31 then 38 * D (j + 16) else 0) 16 = val 0 (fun j => if j + 16 < 31 then 38 * D (j + 16) else 0) 15 := by
      show val 0 _ 15 + 65536 ^ 15 * (if 15 + 16 < 31 then 38 * D (15 + 16) else 0) = _
      rw [if_neg (by omega)]; rfl
    rw [h1, val_add, h2, val_congr (g := fun j => 38 * D (16 + j)) 15 (fun j hj => by rw [if_pos (by omega), Nat.add_comm]), val_scale]
  have e2 : val 0 D 31 = val 0 D 16 + 65536 ^ 16 * val 0 (fun j => D (16 + j)) 15 := val_split D 16 15
  have h5 : 65536 ^ 16 = P25 * 2 + 38 := by decide +kernel
  rw [e1, e2, h5]
  generalize val 0 (fun j => D (16 + j)) 15 = q
  rw [Nat.add_mul, Nat.mul_assoc, show val 0 D 16 + (P25 * (2 * q) + 38 * q) = val 0 D 16 + 38 * q + P25 * (2 * q) by omega, Nat.add_mul_mod_self_left]
def A31 : Obj := .cells #[.int .i64 0, .int .i64 0, .int .i64 0, .int .i64 0, .int .i64 0, .int .i64 0, .int .i64 0, .int .i64 0, .int .i64 0, .int .i64 0, .int .i64 0, .int .i64 0, .int .i64 0, .int .i64 0, .int .i64 0, .int .i64 0, .int .i64 0, .int .i64 0, .int .i64 0, .int .i64 0, .int .i64 0, .int .i64 0, .int .i64 0, .int .i64 0, .int .i64 0, .int .i64 0, .int .i64 0, .int .i64 0, .int .i64 0, .int .i64 0, .int .i64 0] 67
theorem own_31 {w : World} {B : Nat} (hB : B ≤ w.heap.size) : OwnF (w.alloc A31) B 67 (some ⟨w.heap.size, 0, none⟩) 31 31 (nvf fun _ => 0) := OwnF.lit _ hB _ 31 _ (by decide) rfl
def SQ : Nat := 4294836225
/-- The products' digits, when i digits of x and k of y have been reckoned. -/
structure Conv (x y i k : Nat) (D : Nat → Nat) : Prop where
  le : ∀ j, D j ≤ (16 * i + k) * SQ
  eq : val 0 D 31 = (x % 65536 ^ i) * y + 65536 ^ i * (d16 x i * (y % 65536 ^ k))
theorem Conv.start (x y : Nat) : Conv x y 0 0 (fun _ => 0) := ⟨fun _ => Nat.zero_le _, by
  have : ∀ n, val 0 (fun _ => 0) n = 0 := fun n => by
    induction n with
    | zero => rfl
    | succ n ih => rw [val, ih, Nat.mul_zero]
  rw [this]; simp [Nat.mod_one]⟩
theorem Conv.step {x y i k : Nat} {D : Nat → Nat} (h : Conv x y i k D) (hi : i < 16) (hk : k < 16) : Conv x y i (k + 1) (fun j => if j = i + k then D j + d16 x i * d16 y k else D j) := by
  have h1 : d16 x i * d16 y k ≤ SQ := Nat.le_trans (Nat.mul_le_mul (Nat.le_of_lt_succ (d16_lt x i)) (Nat.le_of_lt_succ (d16_lt y k))) (by decide)
  refine ⟨fun j => ?_, ?_⟩
  · have h2 := h.le j
    have e : (16 * i + (k + 1)) * SQ = (16 * i + k) * SQ + SQ := by rw [← Nat.add_assoc, Nat.add_mul _ 1, Nat.one_mul]
    refine Nat.le_trans ?_ (Nat.le_of_eq e.symm)
    by_cases hj : j = i + k
    · rw [if_pos hj]; exact Nat.add_le_add h2 h1
    · rw [if_neg hj]; exact Nat.le_trans h2 (Nat.le_add_right _ _)
  · rw [val_bump, if_pos (by omega), h.eq, mod_pow_succ', Nat.mul_add (d16 x i), Nat.mul_add (65536 ^ i), Nat.pow_add, ← Nat.add_assoc]
    congr 1
    show 65536 ^ i * 65536 ^ k * (d16 x i * dgt 65536 y k) = _
    rw [Nat.mul_assoc, Nat.mul_left_comm (d16 x i)]
theorem Conv.next {x y i : Nat} {D : Nat → Nat} (h : Conv x y i 16 D) (hy : y < W4) : Conv x y (i + 1) 0 D := by
  refine ⟨fun j => Nat.le_trans (h.le j) (Nat.le_of_eq (by rw [Nat.mul_add])), ?_⟩
  rw [h.eq, ← W4_d16, Nat.mod_eq_of_lt hy, mod_pow_succ', Nat.pow_zero, Nat.mod_one, Nat.mul_zero, Nat.mul_zero, Nat.add_zero, Nat.add_mul, Nat.mul_assoc]
  rfl
theorem Conv.fin {x y : Nat} {D : Nat → Nat} (h : Conv x y 16 0 D) (hx : x < W4) : val 0 D 31 = x * y ∧ ∀ j, fold D j ≤ BB := by
  refine ⟨by rw [h.eq, ← W4_d16, Nat.mod_eq_of_lt hx]; simp [Nat.mod_one], fun j => ?_⟩
  have h1 := h.le j
  have h2 := h.le (j + 16)
  unfold fold BB
  unfold SQ at h1 h2
  split <;> omega
theorem fold_lt {D : Nat → Nat} {k : Nat} (h : k < 15) : fold D k = D k + 38 * D (k + 16) := by unfold fold; rw [if_pos (by omega)]
theorem fold_15 (D : Nat → Nat) : fold D 15 = D 15 := by unfold fold; rw [if_neg (by omega)]; rfl
/-- The fold's digits, when k have been laid. -/
def fov (D : Nat → Nat) (k j : Nat) : Value := .int .i64 ((if j < k then fold D j else 0 : Nat) : Int)
theorem fov_in {D : Nat → Nat} {j : Nat} (h : j < 16) : fov D 16 j = nvf (fold D) j := by unfold fov nvf; rw [if_pos h]
theorem fov_set {D : Nat → Nat} {k : Nat} {v : Int} (hv : v = (fold D k : Int)) (j : Nat) : (if j = k then .int .i64 v else fov D k j) = fov D (k + 1) j := by
  subst hv
  unfold fov
  by_cases h : j = k
  · subst h; rw [if_pos rfl, if_pos (by omega)]
  · rw [if_neg h]
    by_cases h2 : j < k
    · rw [if_pos h2, if_pos (by omega)]
    · rw [if_neg h2, if_neg (by omega)]
theorem O16.oth {w : World} {B g x : Nat} (h : O16 w B g x) {p : Addr} (hp : p.block ≠ g) (v : Value) : O16 (w.setCell p v) B g x := OwnF.other h hp v
end Go.Proofs.YtifcjfeepgfmfaaDoor
