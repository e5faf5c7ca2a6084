import Derived.Test.YtifcjfeepgfmfaaDoorLForm
namespace Go.Proofs.YtifcjfeepgfmfaaDoor
open Go Go.RowKit
theorem form_law {a c : Nat} {A : Option Addr} {bs : List UInt8} {w0 : World} (ha : a < W4) (hr : Rd w0 w0.heap.size A c bs) (hl : bs.length ≤ 140737488351232) (_w : World) (hG : Glb w0) :
    Calls Tryd.prog 12 #[nv a, .slice A bs.length c] w0 fun e w' => e = .returned (.bool true) ∧ Below w0.heap.size w0 w' := form_walk ha hr (by omega) w0 rfl hG
end Go.Proofs.YtifcjfeepgfmfaaDoor
