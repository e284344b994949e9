import Derived.Test.YtjilpbmehipagaaVl13
namespace Go.Proofs.Ytjilpbmehipagaa
open Go Go.Proofs Go.RowKit
abbrev zs16:List Int:=List.replicate 16 0
end Go.Proofs.Ytjilpbmehipagaa
