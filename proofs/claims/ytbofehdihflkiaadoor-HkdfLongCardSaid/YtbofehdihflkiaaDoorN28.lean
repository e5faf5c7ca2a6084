/-
  A Hash in memory: what its cells are, and what bytes that are written make of them (layer 6). By an AI agent.
-/
import Derived.Test.YtbofehdihflkiaaDoorN26
namespace Go.Proofs.YtbofehdihflkiaaDoor
open Go Go.RowKit
/-- A Hash's cells: the words, the bytes behind the last whole block, how many there were. -/
def hcell (V : Nat → Nat) (rb : List UInt8) (n : Nat) (j : Nat) : Value := if j < 8 then .int .u32 ((V j : Nat) : Int) else if j < 72 then .int .u8 ((nth rb (j - 8) : Nat) : Int) else .int .u64 (n : Int)
theorem hcell_one (V : Nat → Nat) (rb : List UInt8) (n j : Nat) : (hcell V rb n j).oneCell' = true := by unfold hcell; split; rfl; split <;> rfl
theorem hcell_w {V : Nat → Nat} {rb : List UInt8} {n k : Nat} (h : k < 8) : hcell V rb n (0 + k) = iv32 V k := by unfold hcell iv32; rw [Nat.zero_add, if_pos h]
theorem hcell_r {V : Nat → Nat} {rb : List UInt8} {n k : Nat} (h : k < 64) : hcell V rb n (8 + k) = .int .u8 ((nth rb k : Nat) : Int) := by unfold hcell; rw [if_neg (by omega), if_pos (by omega), Nat.add_sub_cancel_left]
theorem hcell_n (V : Nat → Nat) (rb : List UInt8) (n : Nat) : hcell V rb n 72 = .int .u64 (n : Int) := by unfold hcell; rw [if_neg (by omega), if_neg (by omega)]
theorem hput_w (V V' : Nat → Nat) (rb : List UInt8) (n j : Nat) : fput (hcell V rb n) 0 8 (iv32 V') j = hcell V' rb n j := by
  unfold fput hcell iv32
  by_cases h : j < 8
  · rw [if_pos (by omega), if_pos h, Nat.sub_zero]
  · rw [if_neg (by omega), if_neg h, if_neg h]
theorem hput_n (V : Nat → Nat) (rb : List UInt8) (n n' : Nat) {j : Nat} (hj : j < 73) : (if j = 72 then Value.int .u64 (n' : Int) else hcell V rb n j) = hcell V rb n' j := by
  unfold hcell
  by_cases h : j = 72
  · rw [if_pos h, if_neg (by omega), if_neg (by omega)]
  · rw [if_neg h]
    by_cases h1 : j < 8
    · rw [if_pos h1, if_pos h1]
    · rw [if_neg h1, if_neg h1, if_pos (by omega), if_pos (by omega)]
/-- Bytes laid over others. -/
def lay (rb : List UInt8) (o m : Nat) (b : List UInt8) : List UInt8 := rb.take o ++ b.take m ++ rb.drop (o + m)
theorem lay_length {rb b : List UInt8} {o m : Nat} (h1 : o + m ≤ rb.length) (h2 : m ≤ b.length) : (lay rb o m b).length = rb.length := by
  unfold lay
  rw [List.length_append, List.length_append, List.length_take, List.length_take, List.length_drop]
  omega
theorem lay_take {rb b : List UInt8} {o m : Nat} (h1 : o + m ≤ rb.length) (h2 : m ≤ b.length) : (lay rb o m b).take (o + m) = rb.take o ++ b.take m := by
  unfold lay
  rw [List.take_append_of_le_length (by rw [List.length_append, List.length_take, List.length_take]; omega)]
  exact List.take_of_length_le (by rw [List.length_append, List.length_take, List.length_take]; omega)
theorem hput_r {V : Nat → Nat} {rb b : List UInt8} {n o m : Nat} (hl : rb.length = 64) (h1 : o + m ≤ 64) (h2 : m ≤ b.length) (j : Nat) : fput (hcell V rb n) (8 + o) m (bvf b) j = hcell V (lay rb o m b) n j := by
  unfold fput hcell bvf
  by_cases h : j < 8
  · rw [if_neg (by omega), if_pos h, if_pos h]
  · rw [if_neg h, if_neg h]
    by_cases h3 : j < 72
    · rw [if_pos h3, if_pos h3]
      unfold lay
      by_cases h4 : 8 + o ≤ j ∧ j < 8 + o + m
      · rw [if_pos h4, nth_app_left (by rw [List.length_append, List.length_take, List.length_take]; omega), nth_app_right (by rw [List.length_take]; omega)]
        unfold nth
        rw [List.getElem?_take, List.length_take, if_pos (by omega), show j - 8 - min o rb.length = j - (8 + o) by omega]
      · rw [if_neg h4]
        by_cases h5 : j < 8 + o
        · rw [List.append_assoc, nth_app_left (by rw [List.length_take]; omega)]
          unfold nth
          rw [List.getElem?_take, if_pos (by omega)]
        · rw [nth_app_right (by rw [List.length_append, List.length_take, List.length_take]; omega)]
          unfold nth
          rw [List.getElem?_drop, List.length_append, List.length_take, List.length_take, show o + m + (j - 8 - (min o rb.length + min m b.length)) = j - 8 by omega]
    · rw [if_neg (by omega), if_neg h3, if_neg h3]
/-- A Hash to which these bytes have been written. -/
def Hs (w : World) (B g : Nat) (bs : List UInt8) : Prop := ∃ V rb, OwnF w B 62 (some ⟨g, 0, none⟩) 73 73 (hcell V rb bs.length) ∧ rb.length = 64 ∧ rb.take (bs.length % 64) = bs.drop (bs.length / 64 * 64) ∧ (∀ i, V i < 4294967296) ∧ (bs.length ≠ 0 → V = runs smallS (fst smallS) bs (bs.length / 64))
/-- Another world, in which one elder block alone is another one. -/
structure Ex (g : Nat) (w w' : World) : Prop where
  os : w'.os = w.os
  tape : w'.tape = w.tape
  output : w'.output = w.output
  size : w.heap.size ≤ w'.heap.size
  block : ∀ k, k < w.heap.size → k ≠ g → w'.heap[k]? = w.heap[k]?
section
variable {g : Nat} {w w' w'' : World}
theorem Ex.refl (g : Nat) (w : World) : Ex g w w := ⟨rfl, rfl, rfl, Nat.le_refl _, fun _ _ _ => rfl⟩
theorem Ex.trans (h : Ex g w w') (k : Ex g w' w'') : Ex g w w'' := ⟨k.os.trans h.os, k.tape.trans h.tape, k.output.trans h.output, Nat.le_trans h.size k.size, fun i hi hne => (k.block i (Nat.lt_of_lt_of_le hi h.size) hne).trans (h.block i hi hne)⟩
theorem Ex.of_below (h : Below w.heap.size w w') : Ex g w w' := ⟨h.os, h.tape, h.output, h.size, fun k hk _ => h.block k hk⟩
theorem Ex.of_only (h : Only g w w') : Ex g w w' := ⟨h.os, h.tape, h.output, Nat.le_of_eq h.size.symm, fun k _ hne => h.block k hne⟩
theorem Ex.below {B : Nat} (h : Ex g w w') (hB : B ≤ g) (hw : B ≤ w.heap.size) : Below B w w' := ⟨h.os, h.tape, h.output, h.size, fun k hk => h.block k (by omega) (by omega)⟩
theorem Ex.cell {p : Addr} (h : Ex g w w') (hp : p.block < w.heap.size) (hne : p.block ≠ g) : w'.cell? p = w.cell? p := by
  unfold World.cell?
  rw [h.block p.block hp hne]
theorem OwnF.ex {B c n b : Nat} {e : TypeId} {f : Nat → Value} (h : OwnF w B e (some ⟨b, 0, none⟩) c n f) (hx : Ex g w w') (hne : b ≠ g) : OwnF w' B e (some ⟨b, 0, none⟩) c n f := by
  have hlt := OwnF.lt h
  obtain ⟨hl, h2⟩ := h
  refine ⟨hl, ?_⟩
  rcases h2 with h | ⟨g1, cap, cur, hv, hB, hh, r⟩
  · exact .inl h
  · have e1 : b = g1 := by simp only [Value.slice.injEq, Option.some.injEq, Addr.mk.injEq] at hv; exact hv.1.1
    subst e1
    exact .inr ⟨b, cap, cur, hv, hB, (hx.block b hlt hne).trans hh, r⟩
theorem Rd.ex {A : Option Addr} {c : Nat} {bs : List UInt8} (h : Rd w w.heap.size A c bs) (hx : Ex g w w') (ho : Off g A) : Rd w' w'.heap.size A c bs :=
  ⟨h.cap, h.nil, fun hn => by
    obtain ⟨b, o, e, hlt, hc⟩ := h.some_ hn
    exact ⟨b, o, e, Nat.lt_of_lt_of_le hlt hx.size, fun k hk => (hx.cell (p := ⟨b, o + k, none⟩) hlt (ho ⟨b, o, none⟩ e)).trans (hc k hk)⟩⟩
/-- A row that lies elsewhere, if there is anything in it. -/
def OffE (g : Nat) (A : Option Addr) (bs : List UInt8) : Prop := bs ≠ [] → Off g A
theorem Off.e {A : Option Addr} {bs : List UInt8} (h : Off g A) : OffE g A bs := fun _ => h
theorem OffE.sub {A : Option Addr} {c l : Nat} {bs : List UInt8} (h : OffE g A bs) : OffE g (subA A c l) (bs.drop l) := fun hn => (h (by rintro rfl; exact hn (by simp))).sub
theorem Rd.exE {A : Option Addr} {c : Nat} {bs : List UInt8} (h : Rd w w.heap.size A c bs) (hx : Ex g w w') (ho : OffE g A bs) : Rd w' w'.heap.size A c bs :=
  ⟨h.cap, h.nil, fun hn => by
    obtain ⟨b, o, e, hlt, hc⟩ := h.some_ hn
    exact ⟨b, o, e, Nat.lt_of_lt_of_le hlt hx.size, fun k hk => (hx.cell (p := ⟨b, o + k, none⟩) hlt (ho hn ⟨b, o, none⟩ e)).trans (hc k hk)⟩⟩
theorem Glb.ex (h : Glb w) (hx : Ex g w w') (hg : glbN ≤ g) : Glb w' := h.keep (hx.below hg h.four) (Nat.le_refl _)
theorem Hs.ex {B b : Nat} {bs : List UInt8} (h : Hs w B b bs) (hx : Ex g w w') (hne : b ≠ g) : Hs w' B b bs := by
  obtain ⟨V, rb, o, r⟩ := h
  exact ⟨V, rb, OwnF.ex o hx hne, r⟩
theorem Hs.keep {B b : Nat} {bs : List UInt8} (h : Hs w B b bs) (hx : Below w.heap.size w w') : Hs w' B b bs := by
  obtain ⟨V, rb, o, r⟩ := h
  exact ⟨V, rb, OwnF.keep o hx, r⟩
theorem Hs.lt {B b : Nat} {bs : List UInt8} (h : Hs w B b bs) : b < w.heap.size := by
  obtain ⟨V, rb, o, r⟩ := h
  exact OwnF.lt o
theorem Hs.ge {B b : Nat} {bs : List UInt8} (h : Hs w B b bs) : B ≤ b := by
  obtain ⟨V, rb, o, r⟩ := h
  exact OwnF.ge o
end
/-- On from a whole block to the end. -/
theorem runs_fin (P : List UInt8) {k : Nat} (h : k * 64 ≤ P.length) : runs smallS (runs smallS (fst smallS) P k) (P.drop (k * 64)) ((P.drop (k * 64)).length / 64) = runs smallS (fst smallS) P (P.length / 64) ∧
    (P.drop (k * 64)).drop ((P.drop (k * 64)).length / 64 * 64) = P.drop (P.length / 64 * 64) ∧ (P.drop (P.length / 64 * 64)).length = P.length % 64 := by
  have hl : (P.drop (k * 64)).length = P.length - k * 64 := List.length_drop
  have h1 : k + (P.drop (k * 64)).length / 64 = P.length / 64 := by rw [hl]; omega
  refine ⟨?_, ?_, ?_⟩
  · rw [← h1]
    exact (runs_on smallS (fst smallS) P (k := k) h _).symm
  · rw [List.drop_drop, ← h1, Nat.add_mul]
  · rw [List.length_drop]; omega
theorem drop_le {α : Type} {L M : List α} {k : Nat} (h : k ≤ L.length) : (L ++ M).drop k = L.drop k ++ M := List.drop_append_of_le_length h
/-- The block that is filled. -/
theorem fill_blk {bs b rb : List UInt8} {o : Nat} (ho : o = bs.length % 64) (hl : rb.length = 64) (hr : rb.take o = bs.drop (bs.length / 64 * 64)) (hb : 64 - o ≤ b.length) :
    lay rb o (64 - o) b = ((bs ++ b).drop (bs.length / 64 * 64)).take 64 ∧ (bs ++ b).drop ((bs.length / 64 + 1) * 64) = b.drop (64 - o) := by
  have h1 : bs.length / 64 * 64 ≤ bs.length := Nat.div_mul_le_self _ _
  have h2 : (bs.drop (bs.length / 64 * 64)).length = o := by rw [List.length_drop, ho]; omega
  constructor
  · have h3 := lay_take (rb := rb) (b := b) (o := o) (m := 64 - o) (by omega) hb
    rw [List.take_of_length_le (by rw [lay_length (by omega) hb]; omega)] at h3
    have h5 : (bs.drop (bs.length / 64 * 64) ++ b).take 64 = bs.drop (bs.length / 64 * 64) ++ b.take (64 - o) := by rw [List.take_append, h2, List.take_of_length_le (by rw [h2]; omega)]
    rw [h3, hr, drop_le h1, h5]
  · rw [show (bs.length / 64 + 1) * 64 = bs.length + (64 - o) by omega, List.drop_append, List.drop_of_length_le (by omega), List.nil_append]
    congr 1
    omega
end Go.Proofs.YtbofehdihflkiaaDoor
