/- What the listed tables give a walk; that the table of days reads so behind the call. -/
import Derived.Test.YtjnkeeedoffdkaaDoorStampL
import Derived.ProofKit
import Derived.LaidMore
import Derived.OpenShut
import Derived.Stop.Joined
import Derived.ChangeSame
import Derived.ChangeVars
import Derived.Lib.LaidTab
namespace Go.Proofs.YtjnkeeedoffdkaaDoor.Laid
open Go.ChangeShapes Go.WideShapes Go.ChangeAt Go.RowKit

abbrev nm : String := "loop.example/g00051/impl.monthDays"
abbrev lst : List (String × DataW Unit) := [("math/bits.deBruijn32tab", Rows.laid_math_bits_deBruijn32tab), ("math/bits.deBruijn64tab", Rows.laid_math_bits_deBruijn64tab), ("internal/strconv.uint64pow10", Rows.laid_internal_strconv_uint64pow10), (nm, Rows.laid_loop_example_g00051_impl_monthDays)]
theorem own : ownKnob Tryd.prog.godebug = none := by kernel_rfl
theorem gM : Tryd.prog.globalNamed nm = some 0 := by kernel_rfl
theorem tM : (Tryd.prog.globals[0]?).map (·.type) = some 53 := by kernel_rfl
theorem tP : (Tryd.prog.globals[1]?).map (·.type) = some 90 := by kernel_rfl

theorem door_met (os : Os) (args : Array Value) : laidMetH Tryd.prog lst ((World.doorLaid Tryd.prog 400 os).forCall (fun _ _ => 0) ⟨#[], args, []⟩).memory :=
  laidMetH_of_parts3 (fuel := 8) (laidMet_of_run' 8 (by kernel_rfl) (by kernel_rfl)) (by kernel_rfl) (by kernel_rfl)

def days : List Int := [0, 31, 28, 31, 30, 31, 30, 31, 31, 30, 31, 30, 31]
def cells13 : Array Value := (days.map fun z => Value.int .i64 z).toArray

theorem tabs {W : World} (h0 : laidMetH Tryd.prog lst W) : W.var? Tryd.prog nm = some cells13 ∧ Lib.TabIs Tryd.prog W "internal/strconv.uint64pow10" .u64 Lib.pow10Tab := by
  rw [MakeChecks.laidMetH_plain _ _ _ (by kernel_rfl)] at h0
  obtain ⟨ps, ⟨_, _, _, _, _, _, _, _, _, _, ⟨_, _, _, _, _, _, _, _, _, _, ⟨g3, t3, cs3, f3, p3, q3, hg3, ht3, hv3, hd3, ⟨g4, t4, cs4, f4, p4, q4, hg4, ht4, hv4, hd4, _, _⟩, _⟩, _⟩, _⟩, _⟩ := h0
  obtain rfl := Option.some.inj (gM.symm.trans hg4)
  obtain rfl := Option.some.inj (tM.symm.trans ht4)
  obtain rfl := Option.some.inj (Stamp.gP.symm.trans hg3)
  obtain rfl := Option.some.inj (tP.symm.trans ht3)
  have e4 : (Rows.laid_loop_example_g00051_impl_monthDays : DataW Unit) = Lib.tabData .i64 days := rfl
  have e3 : (Rows.laid_internal_strconv_uint64pow10 : DataW Unit) = Lib.tabData .u64 Lib.pow10Tab := by kernel_rfl
  rw [e4] at hd4
  rw [e3] at hd3
  have c4 := Lib.cells_of_tab Tryd.underlying53 Tryd.underlying2 (by kernel_rfl) (by kernel_rfl) hd4
  have c3 := Lib.cells_of_tab Tryd.underlying90 (k := .u64) (by kernel_rfl) (by kernel_rfl) (by kernel_rfl) hd3
  constructor
  · rw [hv4]
    congr 1
    obtain ⟨l⟩ := cs4
    show Array.mk l = Array.mk _
    exact congrArg Array.mk c4
  · unfold Lib.TabIs
    rw [hv3]
    congr 1
    obtain ⟨l⟩ := cs3
    exact congrArg Array.mk c3

theorem months {W : World} (hv : W.var? Tryd.prog nm = some cells13) : Dates.Months W := by
  intro i hi
  have h := World.var?_cell gM hv i
  rw [h]
  match i, hi with
  | 0, _ | 1, _ | 2, _ | 3, _ | 4, _ | 5, _ | 6, _ | 7, _ | 8, _ | 9, _ | 10, _ | 11, _ | 12, _ => rfl

abbrev tableH {H : Type} : DataW H := Rows.laid_loop_example_g00051_impl_monthDays
theorem reads_table {H : Type} (enc : TypeId × Value → H) (W : World) (sp : Nat → Bool) : DataW.trod enc Tryd.prog W 0 sp true 3 53 cells13.toList = some (tableH, []) := by kernel_rfl

theorem tb {W : World} (h0 : laidMetH Tryd.prog lst W) : Stamp.Tb W := by
  obtain ⟨h1, h2⟩ := tabs h0
  refine ⟨months h1, h2, ?_⟩
  have := World.var?_cell Stamp.gP h2 0
  exact World.block_lt_of_cell? W ⟨1, 0, none⟩ (this.trans rfl)
end Go.Proofs.YtjnkeeedoffdkaaDoor.Laid
