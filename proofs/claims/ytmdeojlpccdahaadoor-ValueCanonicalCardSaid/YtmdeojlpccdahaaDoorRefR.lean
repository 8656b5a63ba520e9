/-
  The reference's reading functions, each by a contract: they hand back what the program's do.
-/
import Derived.Test.YtmdeojlpccdahaaDoorRef
import Derived.Test.YtmdeojlpccdahaaDoorReadB
namespace Go.Proofs.YtmdeojlpccdahaaDoor
open Go.RowKit Go.Lib

end Go.Proofs.YtmdeojlpccdahaaDoor
