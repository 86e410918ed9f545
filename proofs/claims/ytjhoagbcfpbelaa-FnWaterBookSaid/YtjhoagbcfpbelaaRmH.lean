/- Rows of int64 that hold their marks. -/
import Derived.Test.YtjhoagbcfpbelaaXoA
namespace Go.Proofs.Ytjhoagbcfpbelaa.Lists
open Go.ChangeShapes Go.WideShapes Go.ChangeAt Go.RowKit

end Go.Proofs.Ytjhoagbcfpbelaa.Lists
