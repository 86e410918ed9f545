/- What the listed tables and errors give a walk. -/
import Derived.Test.YtgimdhdioigmiaaDoorRsL
import Derived.Lay
import Derived.LaidOnce
import Derived.ProofKit
import Derived.LaidMore
import Derived.OpenShut
import Derived.Stop.Joined
import Derived.Stop.LaidErr
import Derived.ChangeSame
import Derived.ChangeVars
import Derived.Lib.LaidTab
import Derived.Lib.SmallJoins
namespace Go.Proofs.YtgimdhdioigmiaaDoor.Laid
open Go.ChangeShapes Go.WideShapes Go.ChangeAt Go.RowKit Go.Joins

abbrev lst : List (String × DataW Unit) := [("math/bits.deBruijn32tab", Rows.laid_math_bits_deBruijn32tab), ("math/bits.deBruijn64tab", Rows.laid_math_bits_deBruijn64tab), ("internal/strconv.uint64pow10", Rows.laid_internal_strconv_uint64pow10), ("unicode/utf8.acceptRanges", Rows.laid_unicode_utf8_acceptRanges), ("strconv.ErrRange", Rows.laid_strconv_ErrRange), ("strconv.ErrSyntax", Rows.laid_strconv_ErrSyntax), ("unicode/utf8.first", Rows.laid_unicode_utf8_first)]
theorem own : ownKnob Tryd.prog.godebug = none := by kernel_rfl
theorem tP : (Tryd.prog.globals[2]?).map (·.type) = some 93 := by kernel_rfl
theorem gS : Tryd.prog.globalNamed "strconv.ErrSyntax" = some 0 := by kernel_rfl
theorem gR : Tryd.prog.globalNamed "strconv.ErrRange" = some 1 := by kernel_rfl
theorem tS : (Tryd.prog.globals[0]?).map (·.type) = some 46 := by kernel_rfl
theorem tR : (Tryd.prog.globals[1]?).map (·.type) = some 46 := by kernel_rfl
theorem cells103 : Tryd.prog.cellsOf 103 = 1 := by kernel_rfl
theorem cells9 : Tryd.prog.cellsOf 9 = 1 := by kernel_rfl
theorem star : "*" ++ "errors.errorString" = "*errors.errorString" := by decide
theorem row101 (u : TypeId) (h : Tryd.prog.typeName? 3 u = some "*errors.errorString") : u = 101 :=
  typeName_ptr_named (nm := "errors.errorString") (by rw [star]; kernel_rfl) (by kernel_rfl) (by decide) u (by rw [star]; exact h)

theorem tab {W : World} (h0 : laidMetH Tryd.prog lst W) : Lib.TabIs Tryd.prog W "internal/strconv.uint64pow10" .u64 Lib.pow10Tab := by
  rw [MakeChecks.laidMetH_plain _ _ _ (by kernel_rfl)] at h0
  obtain ⟨ps, ⟨_, _, _, _, _, _, _, _, _, _, ⟨_, _, _, _, _, _, _, _, _, _, ⟨g3, t3, cs3, f3, p3, q3, hg3, ht3, hv3, hd3, _, _⟩, _⟩, _⟩, _⟩ := h0
  obtain rfl := Option.some.inj (So.gP.symm.trans hg3)
  obtain rfl := Option.some.inj (tP.symm.trans ht3)
  have e3 : (Rows.laid_internal_strconv_uint64pow10 : DataW Unit) = Lib.tabData .u64 Lib.pow10Tab := by kernel_rfl
  rw [e3] at hd3
  have c3 := Lib.cells_of_tab Tryd.underlying93 (k := .u64) (by kernel_rfl) (by kernel_rfl) (by kernel_rfl) hd3
  unfold Lib.TabIs
  rw [hv3]
  congr 1
  obtain ⟨l⟩ := cs3
  exact congrArg Array.mk c3
theorem tb {W : World} (h0 : laidMetH Tryd.prog lst W) : Rs.Tb3 W := by
  have ht := tab h0
  rw [MakeChecks.laidMetH_plain _ _ _ (by kernel_rfl)] at h0
  obtain ⟨a0, s0, hv0, -, -, -⟩ := laid_sentinel h0.tail.tail.tail.tail gR tR Tryd.underlying46 row101 Tryd.underlying101 Tryd.underlying103 rfl rfl Tryd.underlying9 cells103 cells9
  obtain ⟨a1, s1, hv1, -, -, -⟩ := laid_sentinel h0.tail.tail.tail.tail.tail gS tS Tryd.underlying46 row101 Tryd.underlying101 Tryd.underlying103 rfl rfl Tryd.underlying9 cells103 cells9
  have c1 := World.var?_cell gS hv1 0
  have c0 := World.var?_cell gR hv0 0
  refine ⟨⟨ht, ?_⟩, ⟨_, _, c1.trans rfl⟩, ⟨_, _, c0.trans rfl⟩⟩
  have := World.var?_cell So.gP ht 0
  exact World.block_lt_of_cell? W ⟨2, 0, none⟩ (this.trans rfl)
end Go.Proofs.YtgimdhdioigmiaaDoor.Laid
