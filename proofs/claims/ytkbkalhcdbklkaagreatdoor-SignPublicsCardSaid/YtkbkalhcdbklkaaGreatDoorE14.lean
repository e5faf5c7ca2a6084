/-
  The document's Decode (layer 8). Written by tools/gen_e14.py. By an AI agent.
-/
import Derived.Test.YtkbkalhcdbklkaaGreatDoorJ14
import Derived.Test.YtkbkalhcdbklkaaGreatDoorJ13
namespace Go.Proofs.YtkbkalhcdbklkaaGreatDoor
open Go Go.RowKit
set_option maxRecDepth 20000
/-- What Decode tells of 32 bytes, as one number: three numbers, an error. -/
def decE (n : Nat) : Nat := if n % 2 ^ 255 < P25 then if wokN (n % 2 ^ 255) (n / 2 ^ 255) = true then 0 else 7 else 6
def decT (n : Nat) : Tr := if n % 2 ^ 255 < P25 then withN (n % 2 ^ 255) (n / 2 ^ 255) else ⟨0, 0, 0⟩
section
attribute [local irreducible] wd by8 d16 set16w fl rl setA t3f set8p set4w vk withN wokN vb
end
end Go.Proofs.YtkbkalhcdbklkaaGreatDoor
