/- The law FnExactReadStamp walked, where the two tables are as the program lays them. -/
import Derived.Test.YtjnkeeedoffdkaaDoorStampL
import Derived.Test.YtjnkeeedoffdkaaDoorTimeLaw
import Derived.Test.YtjnkeeedoffdkaaDoorRsS
namespace Go.Proofs.YtjnkeeedoffdkaaDoor.Stamp
open Go.ChangeShapes Go.WideShapes Go.ChangeAt Go.RowKit Dates Fig

set_option maxHeartbeats 400000 in
theorem irs_no (s : ByteArray) (w : World) (h : s.size ≠ 17) : Calls Tryd.prog 10 #[.string s] w fun e w' => e = .returned (.tuple #[.int .i64 0, .bool false]) ∧ Below w.heap.size w w' := by
  have e17 : ((s.size : Int) != 17) = true := by simp; omega
  go_enter Tryd.func10, Tryd.ntmps10
  go_wp2
  go_ret2
  exact ⟨rfl, Below.refl _ _⟩

end Go.Proofs.YtjnkeeedoffdkaaDoor.Stamp
