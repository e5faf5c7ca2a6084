/-
  Layer 19: the landed ideal suite keeps what is asked of it. By an AI agent.
-/
import Derived.Test.YtdddcgkgellbgabSv3
import Derived.Test.YtdddcgkgellbgabSm1
namespace Go.Proofs.Ytdddcgkgellbgab
open Go Go.RowKit
theorem landed19 : IdlC IdR := ⟨fun h hk => h.keep hk, fun h => h.lt, fun h => h.apart, fun h => h.good, fun ⟨I, _, _, e, _⟩ => ⟨I, e⟩⟩
theorem awakeI (w : World) : Calls Try.prog 8 #[] w fun e w' => e = .returned (.bool true) ∧ Below w.heap.size w w' := awake19 landed19 new_any draw_any hash_any len_any w
end Go.Proofs.Ytdddcgkgellbgab
