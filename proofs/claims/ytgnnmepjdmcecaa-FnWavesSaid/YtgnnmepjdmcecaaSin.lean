/- The sines of the ten turns, in the program and in its model. -/
import Derived.Test.YtgnnmepjdmcecaaPr
import Derived.Deep.RegionWith
import Derived.Deep.WholeRow
import Derived.Deep.RegionHeld3
import Derived.Deep.DrawnRows
import Derived.Deep.Cut
import Derived.Deep.DeepCutAuto
import Derived.Deep.DeepMust
namespace Go.Proofs.Ytgnnmepjdmcecaa.Flt
open Go.ChangeShapes Go.WideShapes Go.ChangeAt Go.RowKit
theorem run_store_float {P : Program} (w : World) (a : Addr) (m : Mode) (k : FloatKind) (b : Nat) : (store a (.float k b) m).run P w = stored P w a (.float k b) m := run_store P w a _ m rfl
theorem below_drewN {B : Nat} {a w : World} (h : Below B a w) (n : Nat) : Below B a (w.drewN n) := h.trans ⟨rfl, rfl, rfl, Nat.le_refl _, fun _ _ => rfl⟩
theorem arAdd : Arith .add := .inl rfl
theorem arSub : Arith .sub := .inr (.inl rfl)
theorem arMul : Arith .mul := .inr (.inr (.inl rfl))
theorem arQuo : Arith .quo := .inr (.inr (.inr rfl))
attribute [local go_sem] run_store_float

def tbl : List Nat := [0, 4595424355236410249, 4599832907078044661, 4602678819172646912, 4603964935624201756, 4605075134482436153, 4605975682916830378, 4606639218218904859, 4607045579204271127, 4607182418800017408]
def sn (k : Nat) : Nat := tbl.getD k 0
def sine (k : Int) : Nat := if k ≤ 9 then sn k.toNat else if k ≤ 18 then sn (18 - k).toNat else if k ≤ 27 then opF .sub 0 (sn (k - 18).toNat) else opF .sub 0 (sn (36 - k).toNat)
theorem tb (n : Nat) (h : n ≤ 9) : ([Value.float .f64 0, Value.float .f64 4595424355236410249, Value.float .f64 4599832907078044661, Value.float .f64 4602678819172646912, Value.float .f64 4603964935624201756, Value.float .f64 4605075134482436153, Value.float .f64 4605975682916830378, Value.float .f64 4606639218218904859, Value.float .f64 4607045579204271127, Value.float .f64 4607182418800017408] : List Value)[n]? = some (.float .f64 (sn n)) := by
  match n, h with
  | 0, _ => rfl
  | 1, _ => rfl
  | 2, _ => rfl
  | 3, _ => rfl
  | 4, _ => rfl
  | 5, _ => rfl
  | 6, _ => rfl
  | 7, _ => rfl
  | 8, _ => rfl
  | 9, _ => rfl
  | n + 10, h => omega
theorem sn_num (n : Nat) (h : n ≤ 9) : cn (sn n) = sn n := by
  match n, h with
  | 0, _ => decide +kernel
  | 1, _ => decide +kernel
  | 2, _ => decide +kernel
  | 3, _ => decide +kernel
  | 4, _ => decide +kernel
  | 5, _ => decide +kernel
  | 6, _ => decide +kernel
  | 7, _ => decide +kernel
  | 8, _ => decide +kernel
  | 9, _ => decide +kernel
  | n + 10, h => omega

set_option maxHeartbeats 1000000 in
theorem isine (k : Int) (w : World) (h0 : 0 ≤ k) (h1 : k < 36) : Calls Try.prog 33 #[.int .i64 k] w fun e w' => ∃ b, e = .returned (.float .f64 b) ∧ cn b = sine k ∧ Below w.heap.size w w' := by
  have hs : ∀ x y w, (binOp .sub 27 (.float .f64 x) (.float .f64 y)).run Try.prog w = .ok (.float .f64 (opB .sub x y w)) (w.drewN (opD .sub x y)) := fun x y w => run_op Try.prog .sub arSub 30 x y w
  by_cases h9 : k ≤ 9
  · skip
    have ht := tb (k).toNat (by omega)
    have EN : Hid (cn (sn (k).toNat) = sn (k).toNat) := sn_num _ (by omega)
    have ES : Hid (sine k = sn (k).toNat) := (by show sine k = _; unfold sine; rw [if_pos h9])
    generalize sn (k).toNat = z at *
    go_enter Try.func33, Try.ntmps33
    go_wp2
    go_ret
    exact ⟨_, rfl, by rw [EN.out]; exact (ES.out).symm, (Below.refl _ _).alloc (Nat.le_refl _) _⟩
  · by_cases h18 : k ≤ 18
    · skip
      have ht := tb (18 - k).toNat (by omega)
      have EN : Hid (cn (sn (18 - k).toNat) = sn (18 - k).toNat) := sn_num _ (by omega)
      have ES : Hid (sine k = sn (18 - k).toNat) := (by show sine k = _; unfold sine; rw [if_neg h9, if_pos h18])
      generalize sn (18 - k).toNat = z at *
      go_enter Try.func33, Try.ntmps33
      go_wp2
      go_ret
      exact ⟨_, rfl, by rw [EN.out]; exact (ES.out).symm, (Below.refl _ _).alloc (Nat.le_refl _) _⟩
    · by_cases h27 : k ≤ 27
      · skip
        have ht := tb (k - 18).toNat (by omega)
        have EN : Hid (cn (sn (k - 18).toNat) = sn (k - 18).toNat) := sn_num _ (by omega)
        have ES : Hid (sine k = opF .sub 0 (sn (k - 18).toNat)) := (by show sine k = _; unfold sine; rw [if_neg h9, if_neg h18, if_pos h27])
        generalize sn (k - 18).toNat = z at *
        go_enter Try.func33, Try.ntmps33
        go_wp2
        go_ret
        exact ⟨_, rfl, by rw [cn_op, EN.out]; exact (ES.out).symm, below_drewN ((Below.refl _ _).alloc (Nat.le_refl _) _) _⟩
      · skip
        have ht := tb (36 - k).toNat (by omega)
        have EN : Hid (cn (sn (36 - k).toNat) = sn (36 - k).toNat) := sn_num _ (by omega)
        have ES : Hid (sine k = opF .sub 0 (sn (36 - k).toNat)) := (by show sine k = _; unfold sine; rw [if_neg h9, if_neg h18, if_neg h27])
        generalize sn (36 - k).toNat = z at *
        go_enter Try.func33, Try.ntmps33
        go_wp2
        go_ret
        exact ⟨_, rfl, by rw [cn_op, EN.out]; exact (ES.out).symm, below_drewN ((Below.refl _ _).alloc (Nat.le_refl _) _) _⟩

end Go.Proofs.Ytgnnmepjdmcecaa.Flt
