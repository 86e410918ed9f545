/- Rows of int64 marked and held, with great marks. -/
import Derived.Test.YtfhpomfdkpfooaaXoA
namespace Go.Proofs.Ytfhpomfdkpfooaa.Lists
open Go.ChangeShapes Go.WideShapes Go.ChangeAt Go.RowKit

end Go.Proofs.Ytfhpomfdkpfooaa.Lists
