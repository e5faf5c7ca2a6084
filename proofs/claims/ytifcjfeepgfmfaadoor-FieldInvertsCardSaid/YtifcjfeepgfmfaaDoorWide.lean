import Derived.Test.YtifcjfeepgfmfaaDoorWord
namespace Go.Proofs.YtifcjfeepgfmfaaDoor
open Go Go.RowKit
end Go.Proofs.YtifcjfeepgfmfaaDoor
