/-
  Layer 8's CurveBytes. By an AI agent.
-/
import Derived.Test.YtckdifcelgooeaaDoorU13
import Derived.Test.YtckdifcelgooeaaDoorE23
namespace Go.Proofs.YtckdifcelgooeaaDoor
open Go Go.RowKit
section
attribute [local irreducible] wd by8 d16 set16w fl rl setA sf taf set8p set4w t3f ivN mlN adN sbN uN rtr rtq vk vb
theorem bytes_law8 {A : Option Addr} {c x y : Nat} {bs : List UInt8} {w0 : World} (hr : Rd w0 w0.heap.size A c bs) (hl : bs.length ≤ 140737488351232) (hx : x < W4) (hy : y < W4) (_w : World) (hG : GB8 w0) : Calls Tryd.prog 8 #[.slice A bs.length c, prv x y] w0 fun e w' => e = .returned (.bool true) ∧ Below w0.heap.size w0 w' := by
  have hw := dc_W bs
  by_cases h : okN x y = true
  · obtain ⟨p, rfl, rfl⟩ := ok_pt h
    refine bytes8_b gb8n (by omega) hw.1 hw.2 (fun A c w hG hr => cDec A c w hG.2 hr) (fun A c w hr => refDec A c w hr) (fun w _ => cEnc p w) (fun w => ?_) (fun w => refOn_pt p w) awakeB w0 hr hG
    rw [encN_len]
    exact (refEncode_any p.y.isLt w).mono fun e w' ⟨A, c, he, R, hb⟩ => ⟨A, c, he, R.rd, hb⟩
  · have h0 := Bool.eq_false_iff.2 h
    exact bytes8_a gb8n (by omega) hw.1 hw.2 (fun A c w hG hr => cDec A c w hG.2 hr) (fun A c w hr => refDec A c w hr) (fun w _ => cEncode_no hx hy h0 w) (fun w => refOn_no hx hy h0 w) awakeB w0 hr hG
end
end Go.Proofs.YtckdifcelgooeaaDoor
