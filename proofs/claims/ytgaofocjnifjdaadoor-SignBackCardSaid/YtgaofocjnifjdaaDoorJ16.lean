/-
  The document's Times (layer 8): so many times, by the digits from the lowest. Written by tools/gen_e8.py. By an AI agent. The document's Small, Digits (layer 8). By an AI agent. The document's Base (layer 8), over letters. Written by tools/gen_e10.py. By an AI agent. The document's with (layer 8), over letters. Written by tools/gen_e9.py. By an AI agent. The document's with, Base (layer 8) in numbers. By an AI agent. The document's Decode (layer 8). Written by tools/gen_e14.py. By an AI agent. The document's Point of bytes (layer 8). By an AI agent.
-/
import Derived.Test.YtgaofocjnifjdaaDoorJ15
import Derived.Test.YtgaofocjnifjdaaDoorJ15
import Derived.Test.YtgaofocjnifjdaaDoorJ13
import Derived.Test.YtgaofocjnifjdaaDoorJ15
namespace Go.Proofs.YtgaofocjnifjdaaDoor
open Go Go.RowKit
section
variable {C : Cv}
end
section
attribute [local irreducible] wd by8 d16 set16w fl rl setA t3f Tr.plus
set_option maxRecDepth 20000
end
end Go.Proofs.YtgaofocjnifjdaaDoor
namespace Go.Proofs.YtgaofocjnifjdaaDoor
open Go Go.RowKit
set_option maxRecDepth 20000
section
attribute [local irreducible] wd by8 d16 set16w fl rl setA t3f ivN mlN adN sbN
end
end Go.Proofs.YtgaofocjnifjdaaDoor
namespace Go.Proofs.YtgaofocjnifjdaaDoor
open Go Go.RowKit
section
attribute [local irreducible] wd by8 d16 set16w fl rl setA t3f set8p set4w
set_option maxRecDepth 20000
end
end Go.Proofs.YtgaofocjnifjdaaDoor
namespace Go.Proofs.YtgaofocjnifjdaaDoor
open Go Go.RowKit
section
attribute [local irreducible] wd by8 d16 set16w fl rl setA t3f set8p set4w
set_option maxRecDepth 20000
end
end Go.Proofs.YtgaofocjnifjdaaDoor
namespace Go.Proofs.YtgaofocjnifjdaaDoor
open Go Go.RowKit
/-- What with tells. -/
def withN (y bit : Nat) : Tr := if wokN y bit = true then ⟨wxN y bit, y, 1⟩ else ⟨0, 0, 0⟩
theorem uN_is (y : Nat) : uN y = mlN (sbN (mlN y y) 1) (ivN (adN 1 (mlN ed (mlN y y)))) := rfl
section
attribute [local irreducible] wd by8 d16 set16w fl rl setA t3f ivN mlN adN sbN uN rtr rtq
end
end Go.Proofs.YtgaofocjnifjdaaDoor
namespace Go.Proofs.YtgaofocjnifjdaaDoor
open Go Go.RowKit
set_option maxRecDepth 20000
/-- What Decode tells of 32 bytes, as one number: three numbers, an error. -/
def decE (n : Nat) : Nat := if n % 2 ^ 255 < P25 then if wokN (n % 2 ^ 255) (n / 2 ^ 255) = true then 0 else 7 else 6
def decT (n : Nat) : Tr := if n % 2 ^ 255 < P25 then withN (n % 2 ^ 255) (n / 2 ^ 255) else ⟨0, 0, 0⟩
theorem vb_top {us : List UInt8} (hl : us.length = 32) : vb us / 2 ^ 255 = nth us 31 / 128 ∧ vb us / 2 ^ 255 < 2 := by
  have hv : by8 (vb us) 31 = nth us 31 := by unfold vb; rw [hl]; exact vk_dig us 31 32 (by decide)
  have hn := nth_lt us 31
  have hw := vb_lt hl
  rw [W4_256] at hw
  have e : vb us / 256 ^ 31 = nth us 31 := by
    rw [← hv]
    unfold by8 dgt
    exact (Nat.mod_eq_of_lt (Nat.div_lt_of_lt_mul (by rw [← Nat.pow_succ]; exact hw))).symm
  rw [half_is, ← Nat.div_div_eq_div_mul, e]
  omega
section
attribute [local irreducible] wd by8 d16 set16w fl rl setA t3f set8p set4w vk withN wokN vb
end
end Go.Proofs.YtgaofocjnifjdaaDoor
namespace Go.Proofs.YtgaofocjnifjdaaDoor
open Go Go.RowKit
set_option maxRecDepth 20000
/-- The point that 32 bytes tell, as one number; nought and nought beside an error. -/
def decX (n : Nat) : Nat := if decE n = 0 then wxN (n % 2 ^ 255) (n / 2 ^ 255) else 0
def decY (n : Nat) : Nat := if decE n = 0 then n % 2 ^ 255 else 0
theorem dec_good {n : Nat} (h : decE n = 0) (hn : n / 2 ^ 255 < 2) : decT n = ⟨decX n, decY n, 1⟩ ∧ decX n < P25 ∧ decY n < P25 ∧ onN (decX n) (decY n) = true ∧ decX n % 2 = n / 2 ^ 255 := by
  have hd := h
  unfold decX decY
  rw [if_pos h, if_pos h]
  unfold decE at hd
  by_cases h1 : n % 2 ^ 255 < P25
  · rw [if_pos h1] at hd
    by_cases h2 : wokN (n % 2 ^ 255) (n / 2 ^ 255) = true
    · obtain ⟨a, b, c⟩ := wok_on h1 hn h2
      refine ⟨?_, c, h1, a, b⟩
      unfold decT withN
      rw [if_pos h1, if_pos h2]
    · rw [if_neg h2] at hd
      exact absurd hd (by decide)
  · rw [if_neg h1] at hd
    exact absurd hd (by decide)
theorem built_T0 : Tryd.prog.built 50 [] = some #[.int .u64 (wd 0 0 : Int), .int .u64 (wd 0 1 : Int), .int .u64 (wd 0 2 : Int), .int .u64 (wd 0 3 : Int), .int .u64 (wd 0 0 : Int), .int .u64 (wd 0 1 : Int), .int .u64 (wd 0 2 : Int), .int .u64 (wd 0 3 : Int)] := by kernel_rfl
theorem T_zero {ops : Array Oper} {rest : List Oper} {a : Act} {w : World} {Q : Exit → Act → World → Prop} {dst : Option Nat} {tp : TypeId} {ps : String} {af : Array Edge} (h : wpList Tryd.prog ops Q rest (a.put dst (prv 0 0)) w) : wpList Tryd.prog ops Q (⟨dst, .build 50 #[], tp, ps, af, none⟩ :: rest) a w := by
  have hb := run_build (P := Tryd.prog) w 50 #[] _ built_T0
  refine wpList_plain rfl fun K hK => ?_
  unfold Oper.wp execOp
  simp only [List.map_toArray, List.map_nil, Sem.run_bind, hb, Result.andThen_ok, Sem.run_pure]
  exact hK _ _ h
section
attribute [local irreducible] wd by8 d16 set16w fl rl setA t3f set8p set4w ivN mlN decT decE decX decY
end
end Go.Proofs.YtgaofocjnifjdaaDoor
