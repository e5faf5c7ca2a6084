import Derived.Test.YtifcjfeepgfmfaaDoorTimes
namespace Go.Proofs.YtifcjfeepgfmfaaDoor
open Go Go.RowKit
end Go.Proofs.YtifcjfeepgfmfaaDoor
