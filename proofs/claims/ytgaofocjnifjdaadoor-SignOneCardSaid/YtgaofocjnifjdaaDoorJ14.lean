/-
  Sums, differences, products of the document's layer 3 by short names; a number's bytes (beside Q3). By an AI agent. The document's plus (layer 8), over letters. Written by tools/gen_e3.py. By an AI agent. The document's D, Nought, Plus (layer 8), over letters. Written by tools/gen_e4.py. By an AI agent. The document's On (layer 8), over letters. Written by tools/gen_e4.py. By an AI agent.
-/
import Derived.Test.YtgaofocjnifjdaaDoorJ09
import Derived.Test.YtgaofocjnifjdaaDoorJ12
import Derived.Test.YtgaofocjnifjdaaDoorJ13
import Derived.Test.YtgaofocjnifjdaaDoorJ08
import Derived.Test.YtgaofocjnifjdaaDoorPt
import Derived.Test.YtgaofocjnifjdaaDoorJ10
import Derived.Test.YtgaofocjnifjdaaDoorJ13
namespace Go.Proofs.YtgaofocjnifjdaaDoor
open Go Go.RowKit
theorem nth_set (bs : List UInt8) (k : Nat) (b : UInt8) (j : Nat) (h : k < bs.length) : nth (bs.set k b) j = if k = j then b.toNat else nth bs j := by
  unfold nth
  rw [List.getElem?_set]
  by_cases e : k = j
  · subst e; simp [h]
  · simp [e]
theorem Own.at0 {w : World} {B : Nat} {e : TypeId} {A : Option Addr} {c : Nat} {bs : List UInt8} (h : Own w B e A c bs) (hl : 0 < bs.length) : ∃ g, A = some ⟨g, 0, none⟩ := by
  obtain ⟨_, h2⟩ := h
  rcases h2 with ⟨_, h0⟩ | ⟨g, cap, cur, hv, _⟩
  · omega
  · simp only [Value.slice.injEq] at hv
    exact ⟨g, hv.1⟩
theorem vb_of {x : Nat} (hx : x < W4) : vb (gen (bf x) 32) = x := by
  unfold vb
  rw [gen_length]
  refine dgt_ext (b := 256) (n := 32) (vk_lt _ _) (by rw [← W4_256]; exact hx) fun i hi => ?_
  rw [show dgt 256 (vk (gen (bf x) 32) 32) i = nth (gen (bf x) 32) i from vk_dig _ i 32 hi, nth_gen hi, bf_nat]
  rfl
end Go.Proofs.YtgaofocjnifjdaaDoor
namespace Go.Proofs.YtgaofocjnifjdaaDoor
open Go Go.RowKit
section
attribute [local irreducible] wd by8 d16 set16w fl rl setA t3f
set_option maxRecDepth 20000
end
end Go.Proofs.YtgaofocjnifjdaaDoor
namespace Go.Proofs.YtgaofocjnifjdaaDoor
open Go Go.RowKit
section
attribute [local irreducible] wd by8 d16 set16w fl rl setA t3f set8p set4w
set_option maxRecDepth 20000
end
end Go.Proofs.YtgaofocjnifjdaaDoor
namespace Go.Proofs.YtgaofocjnifjdaaDoor
open Go Go.RowKit
section
attribute [local irreducible] wd by8 d16 set16w fl rl setA t3f set8p set4w
set_option maxRecDepth 20000
end
end Go.Proofs.YtgaofocjnifjdaaDoor
