import Derived.Test.YtjilpbmehipagaaRv14
namespace Go.Proofs.Ytjilpbmehipagaa
open Go Go.Proofs Go.RowKit
theorem rc_ok:RAll:=by
 constructor
 ·exact rfirst_ok
 ·exact rahead_ok
 ·exact rseen_ok
end Go.Proofs.Ytjilpbmehipagaa
