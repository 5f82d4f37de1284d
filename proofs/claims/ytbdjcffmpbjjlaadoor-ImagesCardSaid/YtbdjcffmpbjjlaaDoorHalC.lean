/-
  A new store; LoadImage; the image that rejects.
-/
import Derived.Test.YtbdjcffmpbjjlaaDoorHalA
import Derived.Test.YtbdjcffmpbjjlaaDoorHalB
set_option linter.unusedVariables false
set_option linter.unusedSimpArgs false
namespace Go.Proofs.YtbdjcffmpbjjlaaDoor
open Go.RowKit

end Go.Proofs.YtbdjcffmpbjjlaaDoor
