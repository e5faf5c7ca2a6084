/-
  Any bytes read as a point, by the code and by the document. By an AI agent.
-/
import Derived.Test.YtckdifcelgooeaaDoorTU
import Derived.Test.YtckdifcelgooeaaDoorE15
namespace Go.Proofs.YtckdifcelgooeaaDoor
open Go Go.RowKit
theorem gen8_vb {bs : List UInt8} (hl : bs.length = 32) : gen (bf (vb bs)) 32 = bs := by
  refine nth_ext (by rw [gen_length, hl]) fun k hk => ?_
  rw [gen_length] at hk
  rw [nth_gen hk, bf_nat]
  have h := vk_dig bs k 32 hk
  unfold vb
  rw [hl]
  exact h
section
attribute [local irreducible] wd by8 d16 set16w fl rl setA sf taf set8p set4w t3f ivN mlN adN sbN uN rtr rtq vk vb
/-! Any bytes read as a point. -/
def GB8 (w : World) : Prop := G8 w ∧ Glb w
theorem gb8n : ∀ w w', GB8 w → Below w.heap.size w w' → GB8 w' := fun _ _ h hb => ⟨h.1.next hb, h.2.next hb⟩
theorem awakeB (w : World) (hG : GB8 w) : Calls Tryd.prog 20 #[] w fun e w' => e = .returned (.bool true) ∧ Below w.heap.size w w' := awakeC gb8n (fun _ h => h.1) w hG
def dcX (bs : List UInt8) : Nat := if bs.length = 32 then decX (vb bs) else 0
def dcY (bs : List UInt8) : Nat := if bs.length = 32 then decY (vb bs) else 0
def dcE (bs : List UInt8) : Nat := if bs.length = 32 then decE (vb bs) else 1
theorem dec_W {n : Nat} (h2 : n / 2 ^ 255 < 2) : decX n < W4 ∧ decY n < W4 := by
  by_cases h : decE n = 0
  · obtain ⟨_, a, b, _⟩ := dec_good h h2
    exact ⟨ltW a, ltW b⟩
  · unfold decX decY
    rw [if_neg h, if_neg h]
    exact ⟨W4_pos, W4_pos⟩
theorem dc_W (bs : List UInt8) : dcX bs < W4 ∧ dcY bs < W4 := by
  unfold dcX dcY
  by_cases h : bs.length = 32
  · rw [if_pos h, if_pos h]; exact dec_W (vb_top h).2
  · rw [if_neg h, if_neg h]; exact ⟨W4_pos, W4_pos⟩
theorem cDec {bs : List UInt8} (A : Option Addr) (c : Nat) (w : World) (hG : Glb w) (hr : Rd w w.heap.size A c bs) : Calls Tryd.prog 32 #[.slice A bs.length c] w fun e w' => e = .returned (.tuple #[prv (dcX bs) (dcY bs), .int .i64 (dcE bs : Int)]) ∧ Below w.heap.size w w' := by
  unfold dcX dcY dcE
  by_cases h : bs.length = 32
  · rw [if_pos h, if_pos h, if_pos h, h]; exact cDecode_any h w hr hG
  · rw [if_neg h, if_neg h, if_neg h]; exact cDecode_len h w
theorem refDec {bs : List UInt8} (A : Option Addr) (c : Nat) (w : World) (hr : Rd w w.heap.size A c bs) : Calls Tryd.prog 33 #[.slice A bs.length c] w fun e w' => e = .returned (.tuple #[prv (dcX bs) (dcY bs), .int .i64 (dcE bs : Int)]) ∧ Below w.heap.size w w' := by
  unfold dcX dcY dcE
  by_cases h : bs.length = 32
  · rw [if_pos h, if_pos h, if_pos h, h]; exact refPt_any h w hr
  · rw [if_neg h, if_neg h, if_neg h]; exact refPt_len h w
theorem cEnc (p : Pt E25) (w : World) : Calls Tryd.prog 34 #[prv p.x.val p.y.val] w fun e w' => (∃ A c, e = .returned (.tuple #[.slice A (encN p.x.val p.y.val).length c, .int .i64 0]) ∧ Rd w' w'.heap.size A c (encN p.x.val p.y.val)) ∧ Below w.heap.size w w' := by
  rw [encN_len]
  exact (cEncode_pt p w).mono fun e w' ⟨A, c, he, R, hb⟩ => ⟨⟨A, c, he, R.rd⟩, hb⟩
end
end Go.Proofs.YtckdifcelgooeaaDoor
