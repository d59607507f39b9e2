import Derived.Test.YtnencoainacpoaaDoorGDlP
import Derived.Test.YtnencoainacpoaaDoorGDlG
import Derived.Test.YtnencoainacpoaaDoorDlRefMk
/-
  The program's own Same, May, Apply, Make, Put and Get of pieces: their contracts, in one place.
-/
namespace Go.Proofs.YtnencoainacpoaaDoor
end Go.Proofs.YtnencoainacpoaaDoor

