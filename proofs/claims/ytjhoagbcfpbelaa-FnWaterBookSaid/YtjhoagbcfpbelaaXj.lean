/- FnWaterBook at every code. -/
import Derived.Test.YtjhoagbcfpbelaaXi
namespace Go.Proofs.Ytjhoagbcfpbelaa.Xa
open Go.ChangeShapes Go.WideShapes Go.ChangeAt Go.RowKit
open Go.Proofs.Ytjhoagbcfpbelaa.Rd
set_option maxHeartbeats 1000000 in
theorem law_no1 (ca : Option Addr) (cn cc : Nat) (da : Option Addr) (dn dc : Nat) (w : World) (h : 1048576 < cn) (hn : cn < 9223372036854775808) :
    Calls Try.prog 3 #[.slice ca cn cc, .slice da dn dc] w fun e w' => e = .returned (.bool true) ∧ Below w.heap.size w w' := by
  go_enter Try.func3, Try.ntmps3
  go_wp2_with fail
  refine (big_yes ca cn cc w h hn).mono ?_
  rintro e wz ⟨rfl, rfl⟩
  go_wp2_with fail
  go_ret
  exact ⟨rfl, Below.refl _ _⟩
set_option maxHeartbeats 1000000 in
theorem law_no2 (ca : Option Addr) (cn cc : Nat) (da : Option Addr) (dn dc : Nat) (w : World) (h : cn ≤ 1048576) (h2 : 1048576 < dn) (hn : dn < 9223372036854775808) :
    Calls Try.prog 3 #[.slice ca cn cc, .slice da dn dc] w fun e w' => e = .returned (.bool true) ∧ Below w.heap.size w w' := by
  go_enter Try.func3, Try.ntmps3
  go_wp2_with fail
  refine (big_no ca cn cc w h).mono ?_
  rintro e wz ⟨rfl, rfl⟩
  go_wp2_with fail
  refine (big_yes da dn dc wz h2 hn).mono ?_
  rintro e w ⟨rfl, hww⟩
  subst hww
  go_wp2_with fail
  go_ret
  exact ⟨rfl, Below.refl _ _⟩
theorem law_all (ca : Option Addr) (cn cc : Nat) (da : Option Addr) (dn dc : Nat) (w : World) (hc : Rd.Code w ca cn cc) (h1 : cn < 9223372036854775808) (h2 : dn < 9223372036854775808) :
    Calls Try.prog 3 #[.slice ca cn cc, .slice da dn dc] w fun e w' => e = .returned (.bool true) ∧ Below w.heap.size w w' := by
  by_cases k1 : 1048576 < cn
  · exact law_no1 ca cn cc da dn dc w k1 h1
  · by_cases k2 : 1048576 < dn
    · exact law_no2 ca cn cc da dn dc w (by omega) k2 h2
    · exact law_yes ca cn cc da dn dc w hc (by omega) (by omega)
end Go.Proofs.Ytjhoagbcfpbelaa.Xa
