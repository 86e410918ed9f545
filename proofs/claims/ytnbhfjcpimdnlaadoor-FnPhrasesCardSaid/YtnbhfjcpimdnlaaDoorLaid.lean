/- What the listed tables give a walk. -/
import Derived.Test.YtnbhfjcpimdnlaaDoorRw
import Derived.ProofKit
import Derived.LaidMore
import Derived.OpenShut
import Derived.Stop.Joined
import Derived.ChangeSame
import Derived.ChangeVars
import Derived.Lib.LaidTab
import Derived.Lib.SmallJoins
namespace Go.Proofs.YtnbhfjcpimdnlaaDoor.Laid
open Go.ChangeShapes Go.WideShapes Go.ChangeAt Go.RowKit Go.Joins

abbrev lst : List (String × DataW Unit) := [("math/bits.deBruijn32tab", Rows.laid_math_bits_deBruijn32tab), ("math/bits.deBruijn64tab", Rows.laid_math_bits_deBruijn64tab), ("internal/strconv.uint64pow10", Rows.laid_internal_strconv_uint64pow10)]
theorem own : ownKnob Tryd.prog.godebug = none := by kernel_rfl
theorem tP : (Tryd.prog.globals[1]?).map (·.type) = some 97 := by kernel_rfl

theorem door_met (os : Os) (args : Array Value) : laidMetH Tryd.prog lst ((World.doorLaid Tryd.prog 400 os).forCall (fun _ _ => 0) ⟨#[], args, []⟩).memory :=
  laidMetH_of_parts3 (fuel := 8) (laidMet_of_run' 8 (by kernel_rfl) (by kernel_rfl)) (by kernel_rfl) (by kernel_rfl)

theorem tab {W : World} (h0 : laidMetH Tryd.prog lst W) : Lib.TabIs Tryd.prog W "internal/strconv.uint64pow10" .u64 Lib.pow10Tab := by
  rw [MakeChecks.laidMetH_plain _ _ _ (by kernel_rfl)] at h0
  obtain ⟨ps, ⟨_, _, _, _, _, _, _, _, _, _, ⟨_, _, _, _, _, _, _, _, _, _, ⟨g3, t3, cs3, f3, p3, q3, hg3, ht3, hv3, hd3, _, _⟩, _⟩, _⟩, _⟩ := h0
  obtain rfl := Option.some.inj (Ph.gP.symm.trans hg3)
  obtain rfl := Option.some.inj (tP.symm.trans ht3)
  have e3 : (Rows.laid_internal_strconv_uint64pow10 : DataW Unit) = Lib.tabData .u64 Lib.pow10Tab := by kernel_rfl
  rw [e3] at hd3
  have c3 := Lib.cells_of_tab Tryd.underlying97 (k := .u64) (by kernel_rfl) (by kernel_rfl) (by kernel_rfl) hd3
  unfold Lib.TabIs
  rw [hv3]
  congr 1
  obtain ⟨l⟩ := cs3
  exact congrArg Array.mk c3
theorem tb {W : World} (h0 : laidMetH Tryd.prog lst W) (hm : ∃ m : Int, W.cell? ⟨0, 0, none⟩ = some (.int .i64 m)) : Ph.Tb W := by
  refine ⟨tab h0, ?_, hm⟩
  have := World.var?_cell Ph.gP (tab h0) 0
  exact World.block_lt_of_cell? W ⟨1, 0, none⟩ (this.trans rfl)
/-- the library's bound is some number: out of the world's shape -/
theorem bound {W : World} (h : W.ShapedOpen Tryd.prog) : ∃ m : Int, W.cell? ⟨0, 0, none⟩ = some (.int .i64 m) := Tryd.laysM145.s1_3 W h

end Go.Proofs.YtnbhfjcpimdnlaaDoor.Laid
