/-
  Small facts for the laws of layer 1: a slice of bytes that came in; the table in a box of the law's own.
-/
import Derived.Test.YtdjnfikacjfkkaaCrcC
import Derived.OpenShut
namespace Go.Proofs.Ytdjnfikacjfkkaa
open Go.RowKit CrcM
set_option linter.unusedVariables false
set_option linter.unnecessarySimpa false
set_option linter.unusedSimpArgs false

end Go.Proofs.Ytdjnfikacjfkkaa
