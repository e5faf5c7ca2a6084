/-
  SuiteApart at the landed suite. By an AI agent.
-/
import Derived.Test.YtdddcgkgellbgabSw1
import Derived.Test.YtdddcgkgellbgabSn2
import Derived.Test.YtdddcgkgellbgabSv9
import Derived.Test.YtdddcgkgellbgabOp19
namespace Go.Proofs.Ytdddcgkgellbgab
open Go Go.RowKit
theorem apart_walk {A0 A1 A2 A3 : Option Addr} {c0 c1 c2 c3 : Nat} {a b s x : List UInt8} {k : Int} (hk : (Lit.int .i64 k).wf = true) (w : World)
    (r0 : Rd w w.heap.size A0 c0 a) (r1 : Rd w w.heap.size A1 c1 b) (r2 : Rd w w.heap.size A2 c2 s) (r3 : Rd w w.heap.size A3 c3 x) (l0 : a.length ≤ 1048576) (l1 : b.length ≤ 1048576) (l2 : s.length ≤ 1048576) (l3 : x.length ≤ 1048576) :
    Calls Try.prog 4 #[.slice A0 a.length c0, .slice A1 b.length c1, .slice A2 s.length c2, .slice A3 x.length c3, .int .i64 k] w fun e w' => e = .returned (.bool true) ∧ Below w.heap.size w w' :=
  apart_at landed19 new_any hash_any seal_any sign_any signer_any open_any verify_any awakeI (by have := (int64_of19 hk).2; omega) w rfl rfl rfl rfl r0 r1 r2 r3 l0 l1 l2 l3
end Go.Proofs.Ytdddcgkgellbgab
