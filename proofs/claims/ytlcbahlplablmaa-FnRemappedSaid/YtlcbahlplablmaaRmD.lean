/- Amounts that come to other edges: the model. -/
import Derived.Test.YtlcbahlplablmaaRmC
import Derived.Deep.RegionHeldLaw
import Derived.Deep.AppendLies
import Derived.Maps.AppendAt
namespace Go.Proofs.Ytlcbahlplablmaa.Rm
open Go.ChangeShapes Go.WideShapes Go.ChangeAt Go.RowKit
open Go.Proofs.Ytlcbahlplablmaa.Lists

def okA (A : List Int) : Bool := A.all (fun a => inn a 0 1000000000000)
def heads (E A T : List Int) : Bool := okE E && (okE T && decide ((A.length : Int) = (E.length : Int) - 1))
def okR (E A T : List Int) : Bool := heads E A T && okA A
def rem (E A T : List Int) (k : Nat) : List Int := (List.range k).map fun i => bel E A (T.getD (i + 1) 0) A.length - bel E A (T.getD i 0) A.length
def remap (E A T : List Int) : List Int := if okR E A T then rem E A T (T.length - 1) else []
theorem rem_len (E A T : List Int) (k : Nat) : (rem E A T k).length = k := by simp [rem]
theorem rem_next (E A T : List Int) (k : Nat) : rem E A T (k + 1) = rem E A T k ++ [bel E A (T.getD (k + 1) 0) A.length - bel E A (T.getD k 0) A.length] := by
  unfold rem
  rw [List.range_succ, List.map_append]
  rfl
theorem below_drewN {B : Nat} {a w : World} (h : Below B a w) (n : Nat) : Below B a (w.drewN n) := h.trans ⟨rfl, rfl, rfl, Nat.le_refl _, fun _ _ => rfl⟩

set_option maxHeartbeats 1000000 in
theorem srem_heads (E A T : List Int) (ve va vt : Value) (w : World) (hE : Lists.Reads w ve E) (hA : Lists.Reads w va A) (hT : Lists.Reads w vt T) (lE : E.length < 9223372036854775808) (lT : T.length < 9223372036854775808) (h : heads E A T = false) :
    Calls Try.prog 6 #[ve, va, vt] w fun e w' => ∃ v', e = .returned (.tuple #[v', .bool false]) ∧ w'.ownsRow w.heap.size 2 1 v' 0 [] ∧ Below w.heap.size w w' := by
  have W0 : Below w.heap.size w (w.alloc (Obj.cells #[] 2)) := (Below.refl _ _).alloc (Nat.le_refl _) _
  have R0 : Hid ((w.alloc (Obj.cells #[] 2)).ownsRow w.heap.size 2 1 (.slice (some ⟨w.heap.size, 0, none⟩) 0 0) 0 []) := World.ownsRow_lit w #[] 0 (Nat.le_refl _) (Nat.zero_le _) rfl
  have B0 : Hid (Below w.heap.size w (w.alloc (Obj.cells #[] 2))) := W0
  have C1 : Hid (∀ w', Below w.heap.size w w' → Calls Try.prog 14 #[ve] w' fun e w'' => e = .returned (.bool (okE E)) ∧ ∃ m, w'' = w'.drewN m) := fun w' hb => sedges_any E ve w' (hE.on hb) lE
  have C2 : Hid (∀ w', Below w.heap.size w w' → Calls Try.prog 14 #[vt] w' fun e w'' => e = .returned (.bool (okE T)) ∧ ∃ m, w'' = w'.drewN m) := fun w' hb => sedges_any T vt w' (hT.on hb) lT
  obtain ⟨a1, c1, rfl⟩ := hE.form
  obtain ⟨a2, c2, rfl⟩ := hA.form
  obtain ⟨a3, c3, rfl⟩ := hT.form
  unfold heads at h
  clear hE hA hT W0
  have j0 : IntKind.i64.wrap ((E.length : Int) - 1) = (E.length : Int) - 1 := IntWalk.i64_in _ (by omega)
  cases d1 : okE E
  · rw [d1] at C1
    clear h d1
    go_enter Try.func6, Try.ntmps6
    go_wp2_with fail
    refine (C1.out _ B0.out).mono ?_
    rintro e w1 ⟨rfl, m1, hw⟩
    have R1 : Hid (w1.ownsRow w.heap.size 2 1 (.slice (some ⟨w.heap.size, 0, none⟩) 0 0) 0 []) := (by show World.ownsRow _ _ _ _ _ _ _; rw [hw]; exact R0.out)
    have B1 : Hid (Below w.heap.size w w1) := (by show Below _ _ _; rw [hw]; exact below_drewN B0.out _)
    clear hw
    go_wp2_with fail
    go_ret2
    exact ⟨_, rfl, R1.out, B1.out⟩
  · rw [d1] at C1
    cases d2 : okE T
    · rw [d2] at C2
      clear h d1 d2
      go_enter Try.func6, Try.ntmps6
      go_wp2_with fail
      refine (C1.out _ B0.out).mono ?_
      rintro e w1 ⟨rfl, m1, hw⟩
      have R1 : Hid (w1.ownsRow w.heap.size 2 1 (.slice (some ⟨w.heap.size, 0, none⟩) 0 0) 0 []) := (by show World.ownsRow _ _ _ _ _ _ _; rw [hw]; exact R0.out)
      have B1 : Hid (Below w.heap.size w w1) := (by show Below _ _ _; rw [hw]; exact below_drewN B0.out _)
      clear hw
      go_wp2_with fail
      refine (C2.out _ B1.out).mono ?_
      rintro e w2 ⟨rfl, m2, hw⟩
      have R2 : Hid (w2.ownsRow w.heap.size 2 1 (.slice (some ⟨w.heap.size, 0, none⟩) 0 0) 0 []) := (by show World.ownsRow _ _ _ _ _ _ _; rw [hw]; exact R1.out)
      have B2 : Hid (Below w.heap.size w w2) := (by show Below _ _ _; rw [hw]; exact below_drewN B1.out _)
      clear hw
      go_wp2_with fail
      go_ret2
      exact ⟨_, rfl, R2.out, B2.out⟩
    · rw [d2] at C2
      have hne : ¬ (A.length : Int) = (E.length : Int) - 1 := by
        rw [d1, d2] at h
        simpa using h
      clear h d1 d2
      generalize E.length = n1 at *
      generalize A.length = n2 at *
      generalize T.length = n3 at *
      go_enter Try.func6, Try.ntmps6
      go_wp2_with fail
      refine (C1.out _ B0.out).mono ?_
      rintro e w1 ⟨rfl, m1, hw⟩
      have R1 : Hid (w1.ownsRow w.heap.size 2 1 (.slice (some ⟨w.heap.size, 0, none⟩) 0 0) 0 []) := (by show World.ownsRow _ _ _ _ _ _ _; rw [hw]; exact R0.out)
      have B1 : Hid (Below w.heap.size w w1) := (by show Below _ _ _; rw [hw]; exact below_drewN B0.out _)
      clear hw
      go_wp2_with fail
      refine (C2.out _ B1.out).mono ?_
      rintro e w2 ⟨rfl, m2, hw⟩
      have R2 : Hid (w2.ownsRow w.heap.size 2 1 (.slice (some ⟨w.heap.size, 0, none⟩) 0 0) 0 []) := (by show World.ownsRow _ _ _ _ _ _ _; rw [hw]; exact R1.out)
      have B2 : Hid (Below w.heap.size w w2) := (by show Below _ _ _; rw [hw]; exact below_drewN B1.out _)
      clear hw
      go_wp2_with fail
      go_ret2
      exact ⟨_, rfl, R2.out, B2.out⟩
end Go.Proofs.Ytlcbahlplablmaa.Rm
