/- Where a place lies on a grid; the value there, plain. -/
import Derived.Test.YtknkmkhnakcjiaaAtG
import Derived.Test.YtknkmkhnakcjiaaAtF
import Derived.Test.YtknkmkhnakcjiaaBiK
namespace Go.Proofs.Ytknkmkhnakcjiaa.Gd
open Go.ChangeShapes Go.WideShapes Go.ChangeAt Go.RowKit
open Go.Proofs.Ytknkmkhnakcjiaa.Flt

abbrev gv (r c s ws st : Int) : Value := .agg #[.int .i64 r, .int .i64 c, .int .i64 s, .int .i64 ws, .int .i64 st]
def right (r c s ws st : Int) (n : Nat) : Bool := gok r c s ws st && decide ((n : Int) = r * c)
def okAt (r c s ws st : Int) (n : Nat) (lat lon : Int) : Bool := right r c s ws st n && (inn lat s (s + (r - 1) * st) && inn lon ws (ws + (c - 1) * st))
def cellOf (off st n : Int) : Int := if off / st ≤ n - 2 then off / st else n - 2
theorem cell_is {off st n i : Int} (hs : 1 ≤ st) (h0 : i ≤ n - 2) (h1 : i * st ≤ off) (h2 : i = n - 2 ∨ off < (i + 1) * st) : i = cellOf off st n := by
  have h3 : i ≤ off / st := (Int.le_ediv_iff_mul_le (by omega)).2 h1
  unfold cellOf
  rcases h2 with h2 | h2
  · split <;> omega
  · have h4 : off / st < i + 1 := (Int.ediv_lt_iff_lt_mul (by omega)).2 h2
    split <;> omega
theorem cell_fit {off st n : Int} (hs : 1 ≤ st) (hn : 2 ≤ n) (h0 : 0 ≤ off) (h1 : off ≤ (n - 1) * st) : 0 ≤ cellOf off st n ∧ cellOf off st n ≤ n - 2 ∧ cellOf off st n * st ≤ off ∧ off ≤ cellOf off st n * st + st := by
  have q0 : 0 ≤ off / st := Int.ediv_nonneg h0 (by omega)
  have q1 : off / st * st ≤ off := Int.ediv_mul_le _ (by omega)
  have q2 : off < (off / st + 1) * st := Int.lt_ediv_add_one_mul_self off (by omega)
  rw [Int.add_mul, Int.one_mul] at q2
  unfold cellOf
  split
  · exact ⟨q0, by assumption, q1, by omega⟩
  · have h3 : n - 2 ≤ off / st := by omega
    have h4 : (n - 2) * st ≤ off := (Int.le_ediv_iff_mul_le (by omega)).1 h3
    refine ⟨by omega, by omega, h4, ?_⟩
    have : (n - 1) * st = (n - 2) * st + st := by rw [show n - 1 = (n - 2) + 1 by omega, Int.add_mul, Int.one_mul]
    omega
def fi (n : Int) : Nat := floatOfInt .f64 n
def ble (a b f : Nat) : Nat := opF .add a (opF .mul (opF .sub b a) f)
def atIn (c st i j dy dx : Int) (L : List Nat) : Nat :=
  if kn (L.getD (i * c + j).toNat 0) && (kn (L.getD (i * c + j + 1).toNat 0) && (kn (L.getD (i * c + j + c).toNat 0) && kn (L.getD (i * c + j + c + 1).toNat 0))) then
    ble (ble (cn (L.getD (i * c + j).toNat 0)) (cn (L.getD (i * c + j + 1).toNat 0)) (opF .quo (cn (fi dx)) (cn (fi st)))) (ble (cn (L.getD (i * c + j + c).toNat 0)) (cn (L.getD (i * c + j + c + 1).toNat 0)) (opF .quo (cn (fi dx)) (cn (fi st)))) (opF .quo (cn (fi dy)) (cn (fi st)))
  else cn (L.getD (i * c + j + (if st < 2 * dy then c else 0) + (if st < 2 * dx then 1 else 0)).toNat 0)
def atC (r c s ws st : Int) (L : List Nat) (lat lon : Int) : Nat :=
  if okAt r c s ws st L.length lat lon then atIn c st (cellOf (lat - s) st r) (cellOf (lon - ws) st c) (lat - s - cellOf (lat - s) st r * st) (lon - ws - cellOf (lon - ws) st c * st) L else qn

theorem gok_parts {r c s ws st : Int} (h : gok r c s ws st = true) : (2 ≤ r ∧ r ≤ 64) ∧ (2 ≤ c ∧ c ≤ 64) ∧ (1 ≤ st ∧ st ≤ 3000) ∧ (-9000 ≤ s ∧ s ≤ 9000) ∧ (-18000 ≤ ws ∧ ws ≤ 18000) := by
  unfold gok at h
  simp only [Bool.and_eq_true, inn_iff, decide_eq_true_eq] at h
  obtain ⟨h1, h2, h3, h4, h5, h6⟩ := h
  exact ⟨h1, h2, h3, h4, h6⟩
theorem prod_le2 {r c : Int} (hr : 2 ≤ r ∧ r ≤ 64) (hs : 2 ≤ c ∧ c ≤ 64) : 4 ≤ r * c ∧ r * c ≤ 4096 := by
  obtain ⟨m, rfl⟩ : ∃ m : Nat, r = (m : Int) := ⟨r.toNat, by omega⟩
  obtain ⟨k, rfl⟩ : ∃ k : Nat, c = (k : Int) := ⟨c.toNat, by omega⟩
  have h1 : m * k ≤ 64 * 64 := Nat.mul_le_mul (by omega) (by omega)
  have h2 : 2 * 2 ≤ m * k := Nat.mul_le_mul (by omega) (by omega)
  rw [← Int.natCast_mul]
  omega
/-- A row's first place, among all places. -/
theorem row_le {r c i : Int} (hc : 2 ≤ c) (h0 : 0 ≤ i) (h1 : i ≤ r - 2) : 0 ≤ i * c ∧ i * c + 2 * c ≤ r * c := by
  have e1 : 0 ≤ i * c := Int.mul_nonneg h0 (by omega)
  have e2 : (i + 2) * c ≤ r * c := Int.mul_le_mul_of_nonneg_right (by omega) (by omega)
  rw [Int.add_mul] at e2
  omega
end Go.Proofs.Ytknkmkhnakcjiaa.Gd
