/- What the listed tables give a walk; that the table of days reads so behind the call. -/
import Derived.Test.YtoaabdmbgemkjaaGreatDoorUl
import Derived.ProofKit
import Derived.LaidMore
import Derived.OpenShut
import Derived.Stop.Joined
import Derived.ChangeSame
import Derived.ChangeVars
import Derived.Lib.LaidTab
namespace Go.Proofs.YtoaabdmbgemkjaaGreatDoor.Laid
open Go.ChangeShapes Go.WideShapes Go.ChangeAt Go.RowKit

abbrev nm : String := "loop.example/g00051/impl.monthDays"
abbrev lst : List (String × DataW Unit) := [("math/bits.deBruijn32tab", Rows.laid_math_bits_deBruijn32tab), ("math/bits.deBruijn64tab", Rows.laid_math_bits_deBruijn64tab), ("internal/strconv.uint64pow10", Rows.laid_internal_strconv_uint64pow10), (nm, Rows.laid_loop_example_g00051_impl_monthDays)]
theorem own : ownKnob Tryz.prog.godebug = none := by kernel_rfl
theorem gM : Tryz.prog.globalNamed nm = some 0 := by kernel_rfl
theorem tM : (Tryz.prog.globals[0]?).map (·.type) = some 102 := by kernel_rfl
theorem tP : (Tryz.prog.globals[2]?).map (·.type) = some 124 := by kernel_rfl

theorem door_met (os : Os) (args : Array Value) : laidMetH Tryz.prog lst ((World.doorLaid Tryz.prog 400 os).forCall (fun _ _ => 0) ⟨#[], args, []⟩).memory :=
  laidMetH_of_parts3 (fuel := 8) (laidMet_of_run' 8 (by kernel_rfl) (by kernel_rfl)) (by kernel_rfl) (by kernel_rfl)

def days : List Int := [0, 31, 28, 31, 30, 31, 30, 31, 31, 30, 31, 30, 31]
def cells13 : Array Value := (days.map fun z => Value.int .i64 z).toArray

theorem tabs {W : World} (h0 : laidMetH Tryz.prog lst W) : W.var? Tryz.prog nm = some cells13 ∧ Lib.TabIs Tryz.prog W "internal/strconv.uint64pow10" .u64 Lib.pow10Tab := by
  rw [MakeChecks.laidMetH_plain _ _ _ (by kernel_rfl)] at h0
  obtain ⟨ps, ⟨_, _, _, _, _, _, _, _, _, _, ⟨_, _, _, _, _, _, _, _, _, _, ⟨g3, t3, cs3, f3, p3, q3, hg3, ht3, hv3, hd3, ⟨g4, t4, cs4, f4, p4, q4, hg4, ht4, hv4, hd4, _, _⟩, _⟩, _⟩, _⟩, _⟩ := h0
  obtain rfl := Option.some.inj (gM.symm.trans hg4)
  obtain rfl := Option.some.inj (tM.symm.trans ht4)
  obtain rfl := Option.some.inj (Tx.gP.symm.trans hg3)
  obtain rfl := Option.some.inj (tP.symm.trans ht3)
  have e4 : (Rows.laid_loop_example_g00051_impl_monthDays : DataW Unit) = Lib.tabData .i64 days := rfl
  have e3 : (Rows.laid_internal_strconv_uint64pow10 : DataW Unit) = Lib.tabData .u64 Lib.pow10Tab := by kernel_rfl
  rw [e4] at hd4
  rw [e3] at hd3
  have c4 := Lib.cells_of_tab Tryz.underlying102 Tryz.underlying2 (by kernel_rfl) (by kernel_rfl) hd4
  have c3 := Lib.cells_of_tab Tryz.underlying124 (k := .u64) (by kernel_rfl) (by kernel_rfl) (by kernel_rfl) hd3
  constructor
  · rw [hv4]
    congr 1
    obtain ⟨l⟩ := cs4
    show Array.mk l = Array.mk _
    exact congrArg Array.mk c4
  · unfold Lib.TabIs
    rw [hv3]
    congr 1
    obtain ⟨l⟩ := cs3
    exact congrArg Array.mk c3

theorem months {W : World} (hv : W.var? Tryz.prog nm = some cells13) : Dates.Months W := by
  intro i hi
  have h := World.var?_cell gM hv i
  rw [h]
  match i, hi with
  | 0, _ | 1, _ | 2, _ | 3, _ | 4, _ | 5, _ | 6, _ | 7, _ | 8, _ | 9, _ | 10, _ | 11, _ | 12, _ => rfl

abbrev tableH {H : Type} : DataW H := Rows.laid_loop_example_g00051_impl_monthDays
theorem reads_table {H : Type} (enc : TypeId × Value → H) (W : World) (sp : Nat → Bool) : DataW.trod enc Tryz.prog W 0 sp true 3 102 cells13.toList = some (tableH, []) := by kernel_rfl

theorem tb {W : World} (h0 : laidMetH Tryz.prog lst W) : Tx.Tb W := by
  obtain ⟨h1, h2⟩ := tabs h0
  refine ⟨months h1, h2, ?_⟩
  have := World.var?_cell Tx.gP h2 0
  exact World.block_lt_of_cell? W ⟨2, 0, none⟩ (this.trans rfl)
end Go.Proofs.YtoaabdmbgemkjaaGreatDoor.Laid
