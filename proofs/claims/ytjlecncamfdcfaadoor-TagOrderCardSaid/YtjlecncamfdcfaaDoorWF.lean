/-
  The document's own Text (layer 1): the same bytes as word's.
-/
import Derived.Test.YtjlecncamfdcfaaDoorWE
namespace Go.Proofs.YtjlecncamfdcfaaDoor
open Go.RowKit

end Go.Proofs.YtjlecncamfdcfaaDoor
