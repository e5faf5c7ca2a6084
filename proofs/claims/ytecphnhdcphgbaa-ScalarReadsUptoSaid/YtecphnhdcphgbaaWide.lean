import Derived.Test.YtecphnhdcphgbaaWord
namespace Go.Proofs.Ytecphnhdcphgbaa
open Go Go.RowKit
end Go.Proofs.Ytecphnhdcphgbaa
