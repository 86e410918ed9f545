/- The text of a soil: the program. -/
import Derived.Test.YtgimdhdioigmiaaDoorStP
import Derived.Test.YtgimdhdioigmiaaDoorShelf
import Derived.Lib.AppendIntMem
import Derived.Lib.ItoaMem
namespace Go.Proofs.YtgimdhdioigmiaaDoor.So
open Go.ChangeShapes Go.WideShapes Go.ChangeAt Go.RowKit
open Go.Proofs.YtgimdhdioigmiaaDoor.Dec

def Tb (w : World) : Prop := Lib.TabIs Tryd.prog w "internal/strconv.uint64pow10" .u64 Lib.pow10Tab ∧ 2 < w.heap.size
theorem gP : Tryd.prog.globalNamed "internal/strconv.uint64pow10" = some 2 := by kernel_rfl
theorem Tb.keep {w w' : World} (h : Tb w) (hb : Below w.heap.size w w') : Tb w' := ⟨var?_below hb gP h.2 h.1, Nat.lt_of_lt_of_le h.2 hb.size⟩
theorem fmt {x : Int} (h0 : 0 ≤ x) (h : x ≤ 1000000000000) {w : World} (hT : Tb w) : Calls Tryd.prog 22 #[.int .i64 x, .int .i64 10] w fun e w' => e = .returned (.string ⟨(dd x).toArray⟩) ∧ Below w.heap.size w w' := by
  refine (Tryd.strconv_FormatInt_10 x (by omega) (by omega) w hT.1).mono ?_
  rintro e w' ⟨rfl, k, os, rfl⟩
  refine ⟨?_, Lib.below_grow _ _ (Nat.le_refl _) _ _⟩
  have : Lib.itoa x = dd x := by
    unfold dd
    have := Lib.itoa_nonneg x.toNat
    rw [show ((x.toNat : Nat) : Int) = x by omega] at this
    exact this
  rw [this]

theorem join5 (a b c d f : List UInt8) : Lib.join [a, b, c, d, f] [32] = a ++ ([32] ++ (b ++ ([32] ++ (c ++ ([32] ++ (d ++ ([32] ++ f))))))) := by
  simp [Lib.join, List.intercalate, List.intersperse]

set_option maxHeartbeats 1000000 in
theorem itext_no (a b c d f : Int) (w : World) (h : okB a b c d f = false) : Calls Tryd.prog 9 #[sv a b c d f] w fun e w' => e = .returned (.string ⟨#[]⟩) ∧ Below w.heap.size w w' := by
  have C := iok_any a b c d f
  rw [h] at C
  have HC : Hid (∀ w, Calls Tryd.prog 15 #[sv a b c d f] w fun e w' => e = .returned (.bool false) ∧ Below w.heap.size w w') := C
  clear C h
  go_enter Tryd.func9, Tryd.ntmps9
  go_wp2_with fail
  refine (HC.out _).mono ?_
  rintro e w1 ⟨rfl, hb⟩
  have HB : Hid (Below w.heap.size w w1) := ((Below.refl _ _).alloc (Nat.le_refl _) _).trans (hb.mono (by simp))
  clear hb
  go_wp2_with fail
  go_ret
  exact ⟨rfl, HB.out⟩
end Go.Proofs.YtgimdhdioigmiaaDoor.So
