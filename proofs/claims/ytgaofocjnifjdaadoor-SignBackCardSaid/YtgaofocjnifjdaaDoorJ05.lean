/-
  The document's turned, shifted (layer 6), over letters. Written by tools/gen_n7.py. By an AI agent. The document's words of a block (layer 6), over letters. Written by tools/gen_n8.py. By an AI agent. The document's block (layer 6), over letters. Written by tools/gen_n9.py. By an AI agent. The document's Sum in bytes: padding, blocks, what is told (layer 6). By an AI agent. The document's Sum (layer 6), over letters. By an AI agent.
-/
import Derived.Test.YtgaofocjnifjdaaDoorJ04
import Derived.Test.YtgaofocjnifjdaaDoorJ03
namespace Go.Proofs.YtgaofocjnifjdaaDoor
open Go Go.RowKit
abbrev tv (a b c : Nat) : Value := .agg #[.int .i64 (a : Int), .int .i64 (b : Int), .int .i64 (c : Int)]
attribute [local irreducible] Kd.cells kf
set_option maxRecDepth 20000
def turnedN (b x : Nat) (t : Nat × Nat × Nat) : Nat := (rotN b x t.1 ^^^ rotN b x t.2.1) ^^^ rotN b x t.2.2
def shiftedN (b x : Nat) (t : Nat × Nat × Nat) : Nat := (rotN b x t.1 ^^^ rotN b x t.2.1) ^^^ sh2 x t.2.2
theorem turnedN_lt {b x : Nat} (hb : 0 < b) (hx : x < 2 ^ b) (t : Nat × Nat × Nat) : turnedN b x t < 2 ^ b := Nat.xor_lt_two_pow (Nat.xor_lt_two_pow (rotN_lt hb hx _) (rotN_lt hb hx _)) (rotN_lt hb hx _)
theorem shiftedN_lt {b x : Nat} (hb : 0 < b) (hx : x < 2 ^ b) (t : Nat × Nat × Nat) : shiftedN b x t < 2 ^ b := Nat.xor_lt_two_pow (Nat.xor_lt_two_pow (rotN_lt hb hx _) (rotN_lt hb hx _)) (Nat.lt_of_le_of_lt (sh2_le _ _) hx)
end Go.Proofs.YtgaofocjnifjdaaDoor
namespace Go.Proofs.YtgaofocjnifjdaaDoor
open Go Go.RowKit
/-- Bytes read, the highest first. -/
def be (y : Nat → Nat) (o : Nat) : Nat → Nat
  | 0 => 0
  | k + 1 => be y o k * 256 + y (o + k)
theorem be_zero (y : Nat → Nat) (o : Nat) : be y o 0 = 0 := rfl
theorem be_succ (y : Nat → Nat) (o k : Nat) : be y o (k + 1) = be y o k * 256 + y (o + k) := rfl
theorem be_lt {y : Nat → Nat} (hy : ∀ i, y i < 256) (o : Nat) : ∀ k, be y o k < 256 ^ k
  | 0 => by simp [be]
  | k + 1 => by
    have h1 := be_lt hy o k
    have h2 := hy (o + k)
    unfold be
    rw [Nat.pow_succ]
    omega
/-- The n-th word, of the words ahead of it. -/
def wnext (S : Ks) (y : Nat → Nat) (f : Nat → Nat) (n : Nat) : Nat :=
  if n < 16 then be y (n * (S.bits / 8)) (S.bits / 8) else (shiftedN S.bits (f (n - 2)) S.l + f (n - 7) + shiftedN S.bits (f (n - 15)) S.e + f (n - 16)) % 2 ^ S.bits
def wa (S : Ks) (y : Nat → Nat) : Nat → Nat → Nat
  | 0 => fun _ => 0
  | n + 1 => fun k => if k = n then wnext S y (wa S y n) n else wa S y n k
/-- The words of a block. -/
def wf (S : Ks) (y : Nat → Nat) (n : Nat) : Nat := wa S y (n + 1) n
theorem wa_at (S : Ks) (y : Nat → Nat) : ∀ n k, k < n → wa S y n k = wf S y k
  | 0, k, h => by omega
  | n + 1, k, h => by
    by_cases e : k = n
    · subst e; rfl
    · show (if k = n then _ else wa S y n k) = _
      rw [if_neg e]
      exact wa_at S y n k (by omega)
theorem wf_eq (S : Ks) (y : Nat → Nat) (n : Nat) : wf S y n = if n < 16 then be y (n * (S.bits / 8)) (S.bits / 8) else (shiftedN S.bits (wf S y (n - 2)) S.l + wf S y (n - 7) + shiftedN S.bits (wf S y (n - 15)) S.e + wf S y (n - 16)) % 2 ^ S.bits := by
  show (if n = n then wnext S y (wa S y n) n else wa S y n n) = _
  rw [if_pos rfl]
  unfold wnext
  by_cases h : n < 16
  · rw [if_pos h, if_pos h]
  · rw [if_neg h, if_neg h, wa_at S y n _ (by omega), wa_at S y n _ (by omega), wa_at S y n _ (by omega), wa_at S y n _ (by omega)]
theorem wf_lt {S : Ks} {y : Nat → Nat} (hb : S.bits = 32 ∨ S.bits = 64) (hy : ∀ i, y i < 256) (n : Nat) : wf S y n < 2 ^ S.bits := by
  rw [wf_eq]
  by_cases h : n < 16
  · rw [if_pos h]
    refine Nat.lt_of_lt_of_le (be_lt hy _ _) ?_
    rcases hb with h | h <;> rw [h] <;> decide
  · rw [if_neg h]
    exact Nat.mod_lt _ (Nat.pow_pos (by decide))
def wfv (S : Ks) (y : Nat → Nat) (k : Nat) : Value := .int .u64 ((wf S y k : Nat) : Int)
/-- What is asked of a kind. -/
structure Kok (S : Ks) : Prop where
  bits : S.bits = 32 ∨ S.bits = 64
  rounds : 16 ≤ S.rounds ∧ S.rounds ≤ 80
  u : S.u.1 ≤ 1000 ∧ S.u.2.1 ≤ 1000 ∧ S.u.2.2 ≤ 1000
  d : S.d.1 ≤ 1000 ∧ S.d.2.1 ≤ 1000 ∧ S.d.2.2 ≤ 1000
  e : S.e.1 ≤ 1000 ∧ S.e.2.1 ≤ 1000 ∧ S.e.2.2 ≤ 1000
  l : S.l.1 ≤ 1000 ∧ S.l.2.1 ≤ 1000 ∧ S.l.2.2 ≤ 1000
  keys : S.keys.length = S.rounds ∧ ∀ k, S.keys.getD k 0 < 2 ^ S.bits
  first : S.first.length = 8 ∧ ∀ k, S.first.getD k 0 < 2 ^ S.bits
attribute [local irreducible] Kd.cells kf wf be shiftedN
set_option maxRecDepth 20000
end Go.Proofs.YtgaofocjnifjdaaDoor
namespace Go.Proofs.YtgaofocjnifjdaaDoor
open Go Go.RowKit
structure S8 where
  a : Nat
  b : Nat
  c : Nat
  d : Nat
  e : Nat
  f : Nat
  g : Nat
  h : Nat
def S8.ok (n : Nat) (s : S8) : Prop := s.a < 2 ^ n ∧ s.b < 2 ^ n ∧ s.c < 2 ^ n ∧ s.d < 2 ^ n ∧ s.e < 2 ^ n ∧ s.f < 2 ^ n ∧ s.g < 2 ^ n ∧ s.h < 2 ^ n
def notN (b e : Nat) : Nat := (18446744073709551615 ^^^ e) % 2 ^ b
def chN (b e f g : Nat) : Nat := (e &&& f) ^^^ (notN b e &&& g)
def majN (a b c : Nat) : Nat := ((a &&& b) ^^^ (a &&& c)) ^^^ (b &&& c)
def T1 (S : Ks) (s : S8) (k w : Nat) : Nat := s.h + turnedN S.bits s.e S.d + chN S.bits s.e s.f s.g + k + w
def T2 (S : Ks) (s : S8) : Nat := turnedN S.bits s.a S.u + majN s.a s.b s.c
/-- A round. -/
def rnd (S : Ks) (s : S8) (k w : Nat) : S8 := ⟨(T1 S s k w + T2 S s) % 2 ^ S.bits, s.a, s.b, s.c, (s.d + T1 S s k w) % 2 ^ S.bits, s.e, s.f, s.g⟩
def rnds (S : Ks) (wf : Nat → Nat) (s : S8) : Nat → S8
  | 0 => s
  | t + 1 => rnd S (rnds S wf s t) (S.keys.getD t 0) (wf t)
theorem rnds_zero (S : Ks) (wf : Nat → Nat) (s : S8) : rnds S wf s 0 = s := rfl
theorem rnds_succ (S : Ks) (wf : Nat → Nat) (s : S8) (t : Nat) : rnds S wf s (t + 1) = rnd S (rnds S wf s t) (S.keys.getD t 0) (wf t) := rfl
theorem rnd_ok {S : Ks} {s : S8} (h : s.ok S.bits) (k w : Nat) : (rnd S s k w).ok S.bits := by
  obtain ⟨h1, h2, h3, h4, h5, h6, h7, h8⟩ := h
  exact ⟨Nat.mod_lt _ (Nat.pow_pos (by decide)), h1, h2, h3, Nat.mod_lt _ (Nat.pow_pos (by decide)), h5, h6, h7⟩
theorem rnds_ok {S : Ks} {s : S8} (h : s.ok S.bits) (wf : Nat → Nat) : ∀ t, (rnds S wf s t).ok S.bits
  | 0 => h
  | t + 1 => rnd_ok (rnds_ok h wf t) _ _
def S8.of (V : Nat → Nat) : S8 := ⟨V 0, V 1, V 2, V 3, V 4, V 5, V 6, V 7⟩
def S8.at (s : S8) (i : Nat) : Nat := [s.a, s.b, s.c, s.d, s.e, s.f, s.g, s.h].getD i 0
theorem S8.at_lt {n : Nat} {s : S8} (h : s.ok n) (i : Nat) : s.at i < 2 ^ n := by
  obtain ⟨h1, h2, h3, h4, h5, h6, h7, h8⟩ := h
  unfold S8.at
  match i with
  | 0 => exact h1
  | 1 => exact h2
  | 2 => exact h3
  | 3 => exact h4
  | 4 => exact h5
  | 5 => exact h6
  | 6 => exact h7
  | 7 => exact h8
  | i + 8 => exact Nat.pow_pos (by decide)
/-- The eight words behind a block. -/
def blN (S : Ks) (V : Nat → Nat) (y : Nat → Nat) (i : Nat) : Nat := (V i + (rnds S (wf S y) (S8.of V) S.rounds).at i) % 2 ^ S.bits
def vv (V : Nat → Nat) (k : Nat) : Value := .int .u64 ((V k : Nat) : Int)
attribute [local irreducible] Kd.cells kf wf be shiftedN turnedN rnds blN
set_option maxRecDepth 20000
end Go.Proofs.YtgaofocjnifjdaaDoor
namespace Go.Proofs.YtgaofocjnifjdaaDoor
open Go Go.RowKit
/-- The noughts behind the byte 128, up to the length's first byte of eight. -/
def zc (S : Ks) (len : Nat) : Nat := (2 * S.bits - (len + 1 + S.bits / 4) % (2 * S.bits)) % (2 * S.bits)
def pz (bs : List UInt8) (n : Nat) : List UInt8 := bs ++ (128 : UInt8) :: List.replicate n 0
theorem pz_length (bs : List UInt8) (n : Nat) : (pz bs n).length = bs.length + 1 + n := by
  unfold pz
  rw [List.length_append, List.length_cons, List.length_replicate]
  omega
/-- The bytes of the number of bits. -/
def lb (len : Nat) (k : Nat) : UInt8 := UInt8.ofNat (len * 8 / 2 ^ (8 * (7 - k)) % 256)
def padL (S : Ks) (bs : List UInt8) : List UInt8 := pz bs (zc S bs.length + (S.bits / 4 - 8)) ++ gen (lb bs.length) 8
/-- The words behind j blocks. -/
def sums (S : Ks) (P : List UInt8) : Nat → Nat → Nat
  | 0 => fun i => S.first.getD i 0
  | j + 1 => blN S (sums S P j) (nth ((P.drop (j * (2 * S.bits))).take (2 * S.bits)))
def outB (S : Ks) (V : Nat → Nat) (m : Nat) : UInt8 := UInt8.ofNat (V (m / (S.bits / 8)) / 2 ^ (S.bits - 8 - 8 * (m % (S.bits / 8))) % 256)
/-- The document's Sum. -/
def sumN (S : Ks) (bs : List UInt8) : List UInt8 := gen (outB S (sums S (padL S bs) ((padL S bs).length / (2 * S.bits)))) S.bits
theorem zc_at {S : Ks} (hb : S.bits = 32 ∨ S.bits = 64) (len n : Nat) (hn : n ≤ zc S len) : ((len + 1 + n + S.bits / 4) % (2 * S.bits) = 0 ↔ n = zc S len) := by
  unfold zc at *
  have e : len + 1 + n + S.bits / 4 = (len + 1 + S.bits / 4) + n := by omega
  rw [e]
  generalize len + 1 + S.bits / 4 = x at *
  generalize S.bits = b at *
  rcases hb with rfl | rfl
  · constructor <;> intro h1 <;> omega
  · constructor <;> intro h1 <;> omega
theorem sums_succ (S : Ks) (P : List UInt8) (j : Nat) : sums S P (j + 1) = blN S (sums S P j) (nth ((P.drop (j * (2 * S.bits))).take (2 * S.bits))) := rfl
theorem Rd.sub {w : World} {B c b o i n : Nat} {P : List UInt8} (h : Rd w B (some ⟨b, o, none⟩) c P) (hi : i + n ≤ P.length) : Rd w B (some ⟨b, o + i, none⟩) (c - i) ((P.drop i).take n) := by
  have hl : ((P.drop i).take n).length = n := by rw [List.length_take, List.length_drop]; omega
  refine ⟨by rw [hl]; have := h.cap; omega, fun h => by simp at h, fun hne => ⟨b, o + i, rfl, ?_, fun k hk => ?_⟩⟩
  · have hn : 0 < n := by
      refine Nat.pos_of_ne_zero fun h0 => hne ?_
      rw [h0, List.take_zero]
    obtain ⟨b1, o1, e, hb, _⟩ := h.at_ (k := i) (by omega)
    simp only [Option.some.injEq, Addr.mk.injEq] at e
    rw [e.1]
    exact hb
  · rw [hl] at hk
    obtain ⟨b1, o1, e, _, c1⟩ := h.at_ (k := i + k) (by omega)
    simp only [Option.some.injEq, Addr.mk.injEq] at e
    obtain ⟨rfl, rfl, _⟩ := e
    rw [Nat.add_assoc, c1]
    unfold nth
    rw [List.getElem?_take, if_pos hk, List.getElem?_drop]
theorem lb_nat {len k : Nat} : (lb len k).toNat = len * 8 / 2 ^ (8 * (7 - k)) % 256 := by unfold lb; rw [UInt8.toNat_ofNat']; omega
theorem outB_nat (S : Ks) (V : Nat → Nat) (m : Nat) : (outB S V m).toNat = V (m / (S.bits / 8)) / 2 ^ (S.bits - 8 - 8 * (m % (S.bits / 8))) % 256 := by unfold outB; rw [UInt8.toNat_ofNat']; omega
end Go.Proofs.YtgaofocjnifjdaaDoor
namespace Go.Proofs.YtgaofocjnifjdaaDoor
open Go Go.RowKit
theorem infoB6 : (Tryd.prog.info? 5).map (fun i => (i.zero, i.size, i.bytes)) = some (some (.int .u8 0), 1, 1) := by kernel_rfl
def klenOf : Value → Nat
  | .slice _ l _ => l
  | _ => 0
attribute [local irreducible] Kd.cells kf sh2 blN zc pz lb outB sums gen padL
set_option maxRecDepth 20000
end Go.Proofs.YtgaofocjnifjdaaDoor
