/- What the listed table of days gives a walk: its thirteen cells; that it reads so behind the call. -/
import Derived.Test.YtdmlihaaafpenaaDoorImpl
import Derived.ProofKit
import Derived.LaidMore
import Derived.OpenShut
import Derived.Stop.Joined
import Derived.ChangeSame
import Derived.ChangeVars
import Derived.WalkSmall
namespace Go.Proofs.YtdmlihaaafpenaaDoor.Laid
open Go.ChangeShapes Go.WideShapes Go.ChangeAt Go.RowKit

abbrev nm : String := "loop.example/g00051/impl.monthDays"
abbrev lst : List (String × DataW Unit) := [(nm, Rows.laid_loop_example_g00051_impl_monthDays)]
theorem own : ownKnob Tryd.prog.godebug = none := by kernel_rfl
theorem gM : Tryd.prog.globalNamed nm = some 0 := by kernel_rfl
theorem tM : (Tryd.prog.globals[0]?).map (·.type) = some 40 := by kernel_rfl
theorem cells40 : Tryd.prog.cellsOf 40 = 13 := by kernel_rfl
theorem cells2 : Tryd.prog.cellsOf 2 = 1 := by kernel_rfl

theorem door_met (os : Os) (args : Array Value) : laidMetH Tryd.prog lst ((World.doorLaid Tryd.prog 400 os).forCall (fun _ _ => 0) ⟨#[], args, []⟩).memory :=
  laidMetH_of_parts3 (fuel := 8) (laidMet_of_run' 8 (by kernel_rfl) (by kernel_rfl)) (by kernel_rfl) (by kernel_rfl)

theorem int_of_trod {H : Type} {enc : TypeId × Value → H} {P : Program} {w : World} {base : Nat} {sp : Nat → Bool} {held : Bool} {fuel : Nat} {t : TypeId} {k : IntKind} {c : Value} {y : DataW H × List MemPlace}
    (ht : P.underlying t = some (.int k)) (h : DataW.trod enc P w base sp held fuel t [c] = some y) : ∃ n, c = .int k n ∧ y = (.lit (.int k n), []) := by
  cases fuel with
  | zero => simp [DataW.trod] at h
  | succ fuel =>
    cases c <;> simp [DataW.trod, ht] at h
    rename_i k' n
    obtain ⟨⟨rfl, _⟩, rfl⟩ := h
    exact ⟨n, rfl, rfl⟩

def cells13 : Array Value := #[.int .i64 0, .int .i64 31, .int .i64 28, .int .i64 31, .int .i64 30, .int .i64 31, .int .i64 30, .int .i64 31, .int .i64 31, .int .i64 30, .int .i64 31, .int .i64 30, .int .i64 31]

theorem thirteen {l : List Value} (h : l.length = 13) : ∃ a b c d e f g i j k m n o, l = [a, b, c, d, e, f, g, i, j, k, m, n, o] := by
  match l, h with
  | [a, b, c, d, e, f, g, i, j, k, m, n, o], _ => exact ⟨a, b, c, d, e, f, g, i, j, k, m, n, o, rfl⟩

set_option maxHeartbeats 1000000 in
theorem cells_of_laid {W : World} (h0 : laidMetH Tryd.prog lst W) : W.var? Tryd.prog nm = some cells13 := by
  rw [MakeChecks.laidMetH_plain _ _ _ (by kernel_rfl)] at h0
  obtain ⟨ps, ⟨g, t, cs, fuel, p, q, hg, ht, hvar, hd, _, _⟩, _⟩ := h0
  obtain rfl := Option.some.inj (gM.symm.trans hg)
  obtain rfl := Option.some.inj (tM.symm.trans ht)
  rw [hvar]
  congr 1
  obtain ⟨l⟩ := cs
  cases fuel with
  | zero => simp [DataW.trod] at hd
  | succ fuel =>
    simp only [DataW.trod, Tryd.underlying40, cells40, cells2] at hd
    split at hd
    · rename_i hl
      obtain ⟨c0, c1, c2, c3, c4, c5, c6, c7, c8, c9, c10, c11, c12, rfl⟩ := thirteen (by simpa using hl)
      have e : List.range 13 = [0, 1, 2, 3, 4, 5, 6, 7, 8, 9, 10, 11, 12] := rfl
      rw [e] at hd
      simp only [Option.map_eq_some_iff, List.mapM_cons, List.mapM_nil, Option.bind_eq_bind, Option.bind_eq_some_iff, Option.pure_def, Option.some.injEq] at hd
      obtain ⟨xs, ⟨y0, h0, _, ⟨y1, h1, _, ⟨y2, h2, _, ⟨y3, h3, _, ⟨y4, h4, _, ⟨y5, h5, _, ⟨y6, h6, _, ⟨y7, h7, _, ⟨y8, h8, _, ⟨y9, h9, _, ⟨y10, h10, _, ⟨y11, h11, _, ⟨y12, h12, _, rfl, rfl⟩, rfl⟩, rfl⟩, rfl⟩, rfl⟩, rfl⟩, rfl⟩, rfl⟩, rfl⟩, rfl⟩, rfl⟩, rfl⟩, rfl⟩, hx⟩ := hd
      obtain ⟨n0, rfl, rfl⟩ := int_of_trod Tryd.underlying2 h0
      obtain ⟨n1, rfl, rfl⟩ := int_of_trod Tryd.underlying2 h1
      obtain ⟨n2, rfl, rfl⟩ := int_of_trod Tryd.underlying2 h2
      obtain ⟨n3, rfl, rfl⟩ := int_of_trod Tryd.underlying2 h3
      obtain ⟨n4, rfl, rfl⟩ := int_of_trod Tryd.underlying2 h4
      obtain ⟨n5, rfl, rfl⟩ := int_of_trod Tryd.underlying2 h5
      obtain ⟨n6, rfl, rfl⟩ := int_of_trod Tryd.underlying2 h6
      obtain ⟨n7, rfl, rfl⟩ := int_of_trod Tryd.underlying2 h7
      obtain ⟨n8, rfl, rfl⟩ := int_of_trod Tryd.underlying2 h8
      obtain ⟨n9, rfl, rfl⟩ := int_of_trod Tryd.underlying2 h9
      obtain ⟨n10, rfl, rfl⟩ := int_of_trod Tryd.underlying2 h10
      obtain ⟨n11, rfl, rfl⟩ := int_of_trod Tryd.underlying2 h11
      obtain ⟨n12, rfl, rfl⟩ := int_of_trod Tryd.underlying2 h12
      simp [Rows.laid_loop_example_g00051_impl_monthDays] at hx
      obtain ⟨⟨rfl, rfl, rfl, rfl, rfl, rfl, rfl, rfl, rfl, rfl, rfl, rfl, rfl⟩, _⟩ := hx
      rfl
    · cases hd

theorem months {W : World} (hv : W.var? Tryd.prog nm = some cells13) : Dates.Months W := by
  intro i hi
  have h := World.var?_cell gM hv i
  rw [h]
  match i, hi with
  | 0, _ | 1, _ | 2, _ | 3, _ | 4, _ | 5, _ | 6, _ | 7, _ | 8, _ | 9, _ | 10, _ | 11, _ | 12, _ => rfl

abbrev tableH {H : Type} : DataW H := Rows.laid_loop_example_g00051_impl_monthDays
theorem reads_table {H : Type} (enc : TypeId × Value → H) (W : World) (sp : Nat → Bool) : DataW.trod enc Tryd.prog W 0 sp true 3 40 cells13.toList = some (tableH, []) := by kernel_rfl
end Go.Proofs.YtdmlihaaafpenaaDoor.Laid
