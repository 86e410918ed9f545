/- Whether There is right, as the program tells it. -/
import Derived.Test.YtgajajpcjbpalaaXoC
namespace Go.Proofs.Ytgajajpcjbpalaa.Pkd
open Go.ChangeShapes Go.WideShapes Go.ChangeAt Go.RowKit
open Go.Proofs.Ytgajajpcjbpalaa.Lists

def one (T : List Int) : Nat := Lib.countByte (Lib.bytesOf T) 1
def nou (T : List Int) : Nat := Lib.countByte (Lib.bytesOf T) 0
def thB (cnt : Int) (T : List Int) (nc : Nat) : Bool :=
  if T.length = 0 then decide ((nc : Int) = cnt)
  else if one T + nou T ≠ T.length ∨ nou T = 0 then false
  else decide ((T.length : Int) = cnt) && decide (one T = nc)

theorem one_le (T : List Int) : one T ≤ T.length := by
  have := List.count_le_length (a := (1 : UInt8)) (l := Lib.bytesOf T)
  simpa [one, Lib.countByte, Lib.bytesOf] using this
theorem nou_le (T : List Int) : nou T ≤ T.length := by
  have := List.count_le_length (a := (0 : UInt8)) (l := Lib.bytesOf T)
  simpa [nou, Lib.countByte, Lib.bytesOf] using this

set_option maxHeartbeats 1000000 in
theorem ithere_any (a c e d b : Int) (tv : Value) (T : List Int) (x : Option Addr) (nc cap : Nat) (w : World) (hR : Bytes.Reads w tv T) (hl : T.length ≤ 1048576) :
    Calls Try.prog 51 #[.agg #[.int .i64 a, .int .i64 c, .int .i64 e, .int .i64 d, .int .i64 b, tv, .slice x nc cap]] w fun e w' => e = .returned (.bool (thB a T nc)) ∧ Below w.heap.size w w' := by
  obtain ⟨y, cap2, rfl⟩ := hR.form
  have C1 : Hid (∀ w', Below w.heap.size w w' → ∀ b2, w'.cell? ⟨b2, 0, none⟩ = some (.int .u8 1) → Calls Try.prog 63 #[.slice y T.length cap2, .slice (some ⟨b2, 0, none⟩) 1 1] w' fun e w'' => e = .returned (.int .i64 (one T : Int)) ∧ w'' = w') := fun w' hb b2 hc => count_any w' _ T (hR.on hb) b2 1 1 hc
  have C0 : Hid (∀ w', Below w.heap.size w w' → ∀ b2, w'.cell? ⟨b2, 0, none⟩ = some (.int .u8 0) → Calls Try.prog 63 #[.slice y T.length cap2, .slice (some ⟨b2, 0, none⟩) 1 1] w' fun e w'' => e = .returned (.int .i64 (nou T : Int)) ∧ w'' = w') := fun w' hb b2 hc => count_any w' _ T (hR.on hb) b2 1 0 hc
  have l1 := one_le T
  have l0 := nou_le T
  obtain ⟨t, ht⟩ : ∃ t, t = thB a T nc := ⟨_, rfl⟩
  rw [← ht]
  unfold thB at ht
  generalize one T = o at *
  generalize nou T = z at *
  generalize T.length = n at *
  have HT : Hid (t = if n = 0 then decide ((nc : Int) = a) else if o + z ≠ n ∨ z = 0 then false else decide ((n : Int) = a) && decide (o = nc)) := ht
  clear ht hR
  go_enter Try.func51, Try.ntmps51
  go_wp2_with fail
  refine (C1.out _ (((Below.refl _ _).alloc (Nat.le_refl _) _).alloc (by simp) _) _ (by simp [go_sem])).mono ?_
  rintro e w1 ⟨rfl, hw⟩
  have B1 : Hid (Below w.heap.size w w1) := (by show Below _ _ _; rw [hw]; exact ((Below.refl _ _).alloc (Nat.le_refl _) _).alloc (by simp) _)
  have k5 : w1.cell? ⟨w.heap.size, 5, none⟩ = some (.slice y n cap2) := by rw [hw]; simp [go_sem]
  have k6 : w1.cell? ⟨w.heap.size, 6, none⟩ = some (.slice x nc cap) := by rw [hw]; simp [go_sem]
  have k0 : w1.cell? ⟨w.heap.size, 0, none⟩ = some (.int .i64 a) := by rw [hw]; simp [go_sem]
  have z1 : w.heap.size < w1.heap.size := by rw [hw]; simp; omega
  clear hw C1
  go_wp2_with fail
  refine (C0.out _ (B1.out.alloc (by omega) _) _ (by simp [go_sem])).mono ?_
  rintro e w2 ⟨rfl, hw⟩
  have B2 : Hid (Below w.heap.size w w2) := (by show Below _ _ _; rw [hw]; exact B1.out.alloc (by omega) _)
  have k5' : w2.cell? ⟨w.heap.size, 5, none⟩ = some (.slice y n cap2) := by rw [hw, World.cell?_alloc_lt _ _ _ z1]; exact k5
  have k6' : w2.cell? ⟨w.heap.size, 6, none⟩ = some (.slice x nc cap) := by rw [hw, World.cell?_alloc_lt _ _ _ z1]; exact k6
  have k0' : w2.cell? ⟨w.heap.size, 0, none⟩ = some (.int .i64 a) := by rw [hw, World.cell?_alloc_lt _ _ _ z1]; exact k0
  clear hw C0 k5 k6 k0 B1 z1
  go_wp2_with fail
  all_goals go_ret
  all_goals (refine ⟨congrArg (fun b => Ending.returned (Value.bool b)) (?_ : _ = t), B2.out⟩; rw [HT.out]; clear HT k5' k6' k0' B2 l1 l0 hl)
  all_goals grind
end Go.Proofs.Ytgajajpcjbpalaa.Pkd
