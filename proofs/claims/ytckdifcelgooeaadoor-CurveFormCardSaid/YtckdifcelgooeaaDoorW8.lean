/-
  Layer 8's CurveForm. By an AI agent.
-/
import Derived.Test.YtckdifcelgooeaaDoorU13
import Derived.Test.YtckdifcelgooeaaDoorE24
namespace Go.Proofs.YtckdifcelgooeaaDoor
open Go Go.RowKit
section
attribute [local irreducible] wd by8 d16 set16w fl rl setA sf taf set8p set4w t3f ivN mlN adN sbN uN rtr rtq vk vb
/-- A point's bytes tell that point. -/
theorem enc_dec (p : Pt E25) : dcX (encN p.x.val p.y.val) = p.x.val ∧ dcY (encN p.x.val p.y.val) = p.y.val ∧ dcE (encN p.x.val p.y.val) = 0 := by
  have hy5 : p.y.val < 2 ^ 255 := Nat.lt_trans p.y.isLt P25_half
  have hb : p.x.val % 2 < 2 := Nat.mod_lt _ (by decide)
  have hz : p.y.val + 2 ^ 255 * (p.x.val % 2) < W4 := by
    rw [H25_eq, H25_2]
    omega
  have hv : vb (encN p.x.val p.y.val) = p.y.val + 2 ^ 255 * (p.x.val % 2) := vb_of hz
  have e1 : (p.y.val + 2 ^ 255 * (p.x.val % 2)) % 2 ^ 255 = p.y.val := by omega
  have e2 : (p.y.val + 2 ^ 255 * (p.x.val % 2)) / 2 ^ 255 = p.x.val % 2 := by omega
  have hk := on_wok p.x.isLt p.y.isLt (pt_on p)
  have hE : decE (p.y.val + 2 ^ 255 * (p.x.val % 2)) = 0 := by
    unfold decE
    rw [e1, e2, if_pos p.y.isLt, if_pos hk.1]
  unfold dcX dcY dcE
  rw [if_pos (encN_len _ _), if_pos (encN_len _ _), if_pos (encN_len _ _), hv]
  refine ⟨?_, ?_, hE⟩
  · unfold decX
    rw [if_pos hE, e1, e2, hk.2]
  · unfold decY
    rw [if_pos hE, e1]
/-- Bytes that tell a point are its bytes. -/
theorem dec_enc {bs : List UInt8} (h : dcE bs = 0) : ∃ p : Pt E25, dcX bs = p.x.val ∧ dcY bs = p.y.val ∧ encN p.x.val p.y.val = bs := by
  by_cases hl : bs.length = 32
  · unfold dcE at h
    rw [if_pos hl] at h
    have h2 := (vb_top hl).2
    obtain ⟨_, a, b, o, e⟩ := dec_good h h2
    obtain ⟨p, hp1, hp2⟩ := ok_pt (x := decX (vb bs)) (y := decY (vb bs)) (by unfold okN; rw [decide_eq_true a, decide_eq_true b, o]; rfl)
    refine ⟨p, by unfold dcX; rw [if_pos hl, hp1], by unfold dcY; rw [if_pos hl, hp2], ?_⟩
    unfold encN
    rw [← hp1, ← hp2, e]
    have hy : decY (vb bs) = vb bs % 2 ^ 255 := by unfold decY; rw [if_pos h]
    rw [hy, show vb bs % 2 ^ 255 + 2 ^ 255 * (vb bs / 2 ^ 255) = vb bs from Nat.mod_add_div _ _]
    exact gen8_vb hl
  · unfold dcE at h
    rw [if_neg hl] at h
    exact absurd h (by decide)
theorem dc_no {bs : List UInt8} (h : dcE bs ≠ 0) : dcX bs = 0 ∧ dcY bs = 0 := by
  unfold dcE at h
  unfold dcX dcY
  by_cases hl : bs.length = 32
  · rw [if_pos hl] at h ⊢
    rw [if_pos hl]
    unfold decX decY
    rw [if_neg h, if_neg h]
    exact ⟨rfl, rfl⟩
  · rw [if_neg hl, if_neg hl]
    exact ⟨rfl, rfl⟩
theorem form_law8 {A : Option Addr} {c x y : Nat} {bs : List UInt8} {w0 : World} (hx : x < W4) (hy : y < W4) (hr : Rd w0 w0.heap.size A c bs) (hl : bs.length ≤ 140737488351232) (_w : World) (hG : GB8 w0) : Calls Tryd.prog 11 #[prv x y, .slice A bs.length c] w0 fun e w' => e = .returned (.bool true) ∧ Below w0.heap.size w0 w' := by
  have kb : ∀ (A : Option Addr) (c : Nat) (w : World), GB8 w → Rd w w.heap.size A c bs → Calls Tryd.prog 32 #[.slice A bs.length c] w fun e w' => e = .returned (.tuple #[prv (dcX bs) (dcY bs), .int .i64 (dcE bs : Int)]) ∧ Below w.heap.size w w' := fun A c w hG hr => cDec A c w hG.2 hr
  have kd : ∀ (p : Pt E25) (A : Option Addr) (c : Nat) (w : World), GB8 w → Rd w w.heap.size A c (encN p.x.val p.y.val) → Calls Tryd.prog 32 #[.slice A (encN p.x.val p.y.val).length c] w fun e w' => e = .returned (.tuple #[prv p.x.val p.y.val, .int .i64 0]) ∧ Below w.heap.size w w' := fun p A c w hG hr => by
    have h := cDec A c w hG.2 hr
    obtain ⟨e1, e2, e3⟩ := enc_dec p
    rwa [e1, e2, e3] at h
  by_cases h : okN x y = true
  · obtain ⟨p, rfl, rfl⟩ := ok_pt h
    by_cases he : dcE bs = 0
    · obtain ⟨q, q1, q2, q3⟩ := dec_enc he
      rw [he, q1, q2] at kb
      have kf := fun w (_ : GB8 w) => cEnc q w
      rw [q3] at kf
      exact form8_11 gb8n (by omega) hx hy (fun w _ => cEnc p w) kb (kd p) kf awakeB (fun w _ => cOn_pt q w) w0 hr hG
    · obtain ⟨e1, e2⟩ := dc_no he
      rw [e1, e2] at kb
      exact form8_10 gb8n (by omega) hx hy he (fun w _ => cEnc p w) kb (kd p) awakeB w0 hr hG
  · have h0 := Bool.eq_false_iff.2 h
    by_cases he : dcE bs = 0
    · obtain ⟨q, q1, q2, q3⟩ := dec_enc he
      rw [he, q1, q2] at kb
      have kf := fun w (_ : GB8 w) => cEnc q w
      rw [q3] at kf
      exact form8_01 gb8n (by omega) (fun w _ => cEncode_no hx hy h0 w) kb kf awakeB (fun w _ => cOn_pt q w) w0 hr hG
    · obtain ⟨e1, e2⟩ := dc_no he
      rw [e1, e2] at kb
      exact form8_00 gb8n (by omega) he (fun w _ => cEncode_no hx hy h0 w) kb awakeB w0 hr hG
end
end Go.Proofs.YtckdifcelgooeaaDoor
