/-
  - A power, digit by digit and bit by bit from the lowest.  The document's Nine, and the reverse of a number of layer 3 (Invert). By an AI agent. 
-/
import Derived.Test.YtgaofocjnifjdaaDoorJ12
import Derived.Test.YtgaofocjnifjdaaDoorJ12
import Derived.Test.YtgaofocjnifjdaaDoorJ11
namespace Go.Proofs.YtgaofocjnifjdaaDoor
open Go Go.RowKit
attribute [local irreducible] wd by8 d16 set16w fl val cyr FF gl fold
set_option maxRecDepth 20000
end Go.Proofs.YtgaofocjnifjdaaDoor

namespace Go.Proofs.YtgaofocjnifjdaaDoor
open Go Go.RowKit
/-- A power, digit by digit and bit by bit from the lowest. -/
def pe (a e i k : Nat) : Nat := a ^ (e % 256 ^ i + 256 ^ i * (by8 e i % 2 ^ k)) % P25
def pb (a i k : Nat) : Nat := a ^ (256 ^ i * 2 ^ k) % P25
attribute [local irreducible] wd by8 d16 set16w fl pe pb
set_option maxRecDepth 20000
end Go.Proofs.YtgaofocjnifjdaaDoor

namespace Go.Proofs.YtgaofocjnifjdaaDoor
open Go Go.RowKit
set_option maxRecDepth 20000
attribute [local irreducible] wd by8 d16 hd
end Go.Proofs.YtgaofocjnifjdaaDoor
namespace Go.Proofs.YtgaofocjnifjdaaDoor
open Go Go.RowKit
attribute [local irreducible] wd by8 d16 set16w fl
set_option maxRecDepth 20000
end Go.Proofs.YtgaofocjnifjdaaDoor
namespace Go.Proofs.YtgaofocjnifjdaaDoor
open Go Go.RowKit
attribute [local irreducible] wd by8 d16 set16w fl
set_option maxRecDepth 20000
end Go.Proofs.YtgaofocjnifjdaaDoor
namespace Go.Proofs.YtgaofocjnifjdaaDoor
open Go Go.RowKit
attribute [local irreducible] wd by8 d16 set16w fl
set_option maxRecDepth 20000
end Go.Proofs.YtgaofocjnifjdaaDoor
