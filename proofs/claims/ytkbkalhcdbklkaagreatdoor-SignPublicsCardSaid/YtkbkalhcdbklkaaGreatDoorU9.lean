/-
  The code's Decode (layer 8), over letters. Written by tools/gen_u6.py. By an AI agent.
-/
import Derived.Test.YtkbkalhcdbklkaaGreatDoorJ20
namespace Go.Proofs.YtkbkalhcdbklkaaGreatDoor
open Go Go.RowKit
section
attribute [local irreducible] wd by8 fl rl setA sf taf set8p set4w ed2
set_option maxRecDepth 20000
end
end Go.Proofs.YtkbkalhcdbklkaaGreatDoor
