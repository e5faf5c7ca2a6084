/-
  SuiteBack at the landed suite. By an AI agent.
-/
import Derived.Test.YtdddcgkgellbgabSw1
import Derived.Test.YtdddcgkgellbgabSn5
import Derived.Test.YtdddcgkgellbgabSv6
import Derived.Test.YtdddcgkgellbgabSv7
import Derived.Test.YtdddcgkgellbgabSv9
import Derived.Test.YtdddcgkgellbgabOp19
namespace Go.Proofs.Ytdddcgkgellbgab
open Go Go.RowKit
theorem back_walk {Aa Ab Ac : Option Addr} {na ca cb cc : Nat} {o x : List UInt8} {n : Int} (hn2 : -9223372036854775808 ≤ n) (hn : n ≤ 9223372036854775807)
    (w : World) (r1 : Rd w w.heap.size Ab cb o) (r2 : Rd w w.heap.size Ac cc x) :
    Calls Try.prog 5 #[.agg #[.slice Aa na ca, .slice Ab o.length cb, .slice Ac x.length cc, .int .i64 n]] w fun e w' => e = .returned (.bool true) ∧ Below w.heap.size w w' :=
  back_at landed19 new_any draw_any public_any shared_any derive_any seal_any sign_any signer_any open_any verify_any awakeI (by omega) hn2 rfl rfl w r1 r2
end Go.Proofs.Ytdddcgkgellbgab
