/- Whether a box is right: the model. -/
import Derived.Test.YtagkbglgdmajhaaBx
namespace Go.Proofs.Ytagkbglgdmajhaa.Bx
open Go.ChangeShapes Go.WideShapes Go.ChangeAt Go.RowKit
open Go.Proofs.Ytagkbglgdmajhaa.Lists

def inn (a lo hi : Int) : Bool := decide (lo ≤ a) && decide (a ≤ hi)
def heads (r c : Int) (n : Nat) : Bool := inn r 1 24 && (inn c 1 24 && decide ((n : Int) = r * c))
def okB (r c : Int) (L : List Int) : Bool := heads r c L.length && L.all (fun d => inn d (-1000000000) 1000000000)
theorem inn_iff (a lo hi : Int) : inn a lo hi = true ↔ lo ≤ a ∧ a ≤ hi := by simp [inn]
theorem s_in (n a b : Int) (w : World) : Calls Try.prog 30 #[.int .i64 n, .int .i64 a, .int .i64 b] w fun e w' => e = .returned (.bool (inn n a b)) ∧ w' = w := sin_any n a b w
theorem reads_at {w : World} {v : Value} {L : List Int} (hL : Lists.Reads w v L) : ∃ b o, (∀ i, i < L.length → w.cell? ⟨b, o + i, none⟩ = some (.int .i64 (L.getD i 0))) ∧ (0 < L.length → b < w.heap.size ∧ ∃ cap, v = .slice (some ⟨b, o, none⟩) L.length cap) := by
  rcases hL with ⟨rfl, _⟩ | ⟨b, o, cap, h1, h2, h3, h4, h5⟩
  · exact ⟨0, 0, fun i hi => by simp at hi, fun hi => by simp at hi⟩
  · exact ⟨b, o, h5, fun _ => ⟨h4, cap, h1⟩⟩
theorem mul_le {r c : Int} (hr : 1 ≤ r ∧ r ≤ 24) (hc : 1 ≤ c ∧ c ≤ 24) : 1 ≤ r * c ∧ r * c ≤ 576 := by
  obtain ⟨m, rfl⟩ : ∃ m : Nat, r = (m : Int) := ⟨r.toNat, by omega⟩
  obtain ⟨k, rfl⟩ : ∃ k : Nat, c = (k : Int) := ⟨c.toNat, by omega⟩
  have h1 : m * k ≤ 24 * 24 := Nat.mul_le_mul (by omega) (by omega)
  have h2 : 1 * 1 ≤ m * k := Nat.mul_le_mul (by omega) (by omega)
  rw [← Int.natCast_mul]
  omega

set_option maxHeartbeats 1000000 in
theorem sok_no (x y : Int) (a : Option Addr) (n cap : Nat) (w : World) (hn : n < 9223372036854775808) (h : heads x y n = false) :
    Calls Try.prog 16 #[sv x y (.slice a n cap)] w fun e w' => e = .returned (.bool false) ∧ Below w.heap.size w w' := by
  have B0 : Hid (Below w.heap.size w (w.alloc (Obj.cells #[.int .i64 x, .int .i64 y, .slice a n cap] 28))) := (Below.refl _ _).alloc (Nat.le_refl _) _
  have C1 : Hid (∀ w, Calls Try.prog 30 #[.int .i64 x, .int .i64 1, .int .i64 24] w fun e w' => e = .returned (.bool (inn x 1 24)) ∧ w' = w) := fun w => s_in _ _ _ w
  have C2 : Hid (∀ w, Calls Try.prog 30 #[.int .i64 y, .int .i64 1, .int .i64 24] w fun e w' => e = .returned (.bool (inn y 1 24)) ∧ w' = w) := fun w => s_in _ _ _ w
  have j0 : IntKind.i64.wrap (n : Int) = (n : Int) := IntWalk.i64_in _ (by omega)
  unfold heads at h
  cases c1 : inn x 1 24
  · rw [c1] at C1
    clear h c1
    go_enter Try.func16, Try.ntmps16
    go_wp2_with fail
    refine (C1.out _).mono ?_
    rintro e w1 ⟨rfl, hw⟩
    subst hw
    go_wp2_with fail
    go_ret
    exact ⟨rfl, B0.out⟩
  · cases c2 : inn y 1 24
    · rw [c1] at C1
      rw [c2] at C2
      clear h c1 c2
      go_enter Try.func16, Try.ntmps16
      go_wp2_with fail
      refine (C1.out _).mono ?_
      rintro e w1 ⟨rfl, hw⟩
      subst hw
      go_wp2_with fail
      refine (C2.out _).mono ?_
      rintro e w2 ⟨rfl, hw⟩
      subst hw
      go_wp2_with fail
      go_ret
      exact ⟨rfl, B0.out⟩
    · have m1 := mul_le ((inn_iff _ _ _).1 c1) ((inn_iff _ _ _).1 c2)
      obtain ⟨p, hp⟩ : ∃ p, p = x * y := ⟨_, rfl⟩
      have j1 : wrap64 (x * y) = p := by rw [hp]; exact IntWalk.wrap64_in _ (by omega)
      have hne : ¬ (n : Int) = x * y := by
        rw [c1, c2] at h
        simpa using h
      rw [c1] at C1
      rw [c2] at C2
      rw [← hp] at hne m1
      clear h c1 c2 hp
      go_enter Try.func16, Try.ntmps16
      go_wp2_with fail
      refine (C1.out _).mono ?_
      rintro e w1 ⟨rfl, hw⟩
      subst hw
      go_wp2_with fail
      refine (C2.out _).mono ?_
      rintro e w2 ⟨rfl, hw⟩
      subst hw
      go_wp2_with fail
      go_ret
      exact ⟨rfl, B0.out⟩

set_option maxHeartbeats 1000000 in
theorem sok_yes (x y : Int) (L : List Int) (v : Value) (w : World) (hL : Lists.Reads w v L) (h : heads x y L.length = true) :
    Calls Try.prog 16 #[sv x y v] w fun e w' => e = .returned (.bool (L.all (fun d => inn d (-1000000000) 1000000000))) ∧ Below w.heap.size w w' := by
  have hh := h
  unfold heads at hh
  simp only [Bool.and_eq_true, decide_eq_true_eq] at hh
  obtain ⟨h1, h2, h3⟩ := hh
  have m1 := mul_le ((inn_iff _ _ _).1 h1) ((inn_iff _ _ _).1 h2)
  have j1 : wrap64 (x * y) = (L.length : Int) := by rw [h3]; exact IntWalk.wrap64_in _ (by omega)
  have l1 : L.length ≤ 576 := by omega
  have j0 : IntKind.i64.wrap (L.length : Int) = (L.length : Int) := IntWalk.i64_in _ (by omega)
  have C1 : Hid (∀ w, Calls Try.prog 30 #[.int .i64 x, .int .i64 1, .int .i64 24] w fun e w' => e = .returned (.bool true) ∧ w' = w) := fun w => by have := s_in x 1 24 w; rwa [h1] at this
  have C2 : Hid (∀ w, Calls Try.prog 30 #[.int .i64 y, .int .i64 1, .int .i64 24] w fun e w' => e = .returned (.bool true) ∧ w' = w) := fun w => by have := s_in y 1 24 w; rwa [h2] at this
  obtain ⟨b, o, hc, hv⟩ := reads_at hL
  obtain ⟨a, cap, rfl⟩ := hL.form
  have HC : Hid (∀ i, i < L.length → w.cell? ⟨b, o + i, none⟩ = some (.int .i64 (L.getD i 0))) := hc
  have HV : Hid (0 < L.length → b < w.heap.size ∧ a = some ⟨b, o, none⟩) := fun hi => by
    obtain ⟨h1, c, h2⟩ := hv hi
    simp at h2
    exact ⟨h1, h2.1⟩
  obtain ⟨w0, hw0⟩ : ∃ w0, w0 = w.alloc (Obj.cells #[.int .i64 x, .int .i64 y, .slice a L.length cap] 28) := ⟨_, rfl⟩
  have HW0 : Hid (w0 = w.alloc (Obj.cells #[.int .i64 x, .int .i64 y, .slice a L.length cap] 28)) := hw0
  have B0 : Hid (Below w.heap.size w w0) := (by show Below _ _ _; rw [hw0]; exact (Below.refl _ _).alloc (Nat.le_refl _) _)
  have c0 : w0.cell? ⟨w.heap.size, 0, none⟩ = some (.int .i64 x) := by rw [hw0]; simp [go_sem]
  have c1 : w0.cell? ⟨w.heap.size, 1, none⟩ = some (.int .i64 y) := by rw [hw0]; simp [go_sem]
  have c2 : w0.cell? ⟨w.heap.size, 2, none⟩ = some (.slice a L.length cap) := by rw [hw0]; simp [go_sem]
  obtain ⟨R, hR⟩ : ∃ R, R = L.all (fun d => inn d (-1000000000) 1000000000) := ⟨_, rfl⟩
  have HR : Hid (R = L.all (fun d => inn d (-1000000000) 1000000000)) := hR
  rw [← hR]
  obtain ⟨n, hn⟩ : ∃ n, n = L.length := ⟨_, rfl⟩
  rw [← hn] at l1 c2 HW0 j0 j1 ⊢
  have HN : Hid (n = L.length) := hn
  clear h h1 h2 h3 hL hc hv hw0 hR hn m1
  go_enter Try.func16, Try.ntmps16
  go_wp2_with fail
  rw [← HW0.out]
  refine (C1.out _).mono ?_
  rintro e w1 ⟨rfl, hw⟩
  have hw' := hw.symm
  subst hw'
  clear HW0
  go_wp2_with fail
  refine (C2.out _).mono ?_
  rintro e w2 ⟨rfl, hw⟩
  have hw' := hw.symm
  subst hw'
  go_wp2_with fail
  clear j0 j1
  go_loop [3] (fun i => ∃ k : Nat, k ≤ n ∧ i = .int .i64 k ∧ Hid (∀ j, j < k → inn (L.getD j 0) (-1000000000) 1000000000 = true)) (fun i => n - (intOf i).toNat)
  case atStart => exact ⟨0, Nat.zero_le _, rfl, fun j hj => absurd hj (by omega)⟩
  case round =>
    obtain ⟨k, hk, rfl, OK⟩ := hrel
    by_cases hlt : k < n
    · have hkl : k < L.length := by have := HN.out; omega
      obtain ⟨hb, hx⟩ := HV.out (by omega)
      subst hx
      have q : w0.cell? ⟨b, o + k, none⟩ = some (.int .i64 (L.getD k 0)) := (B0.out.cell (p := ⟨b, o + k, none⟩) hb).trans (HC.out k hkl)
      have i2 : (0 : Int) ≤ (k : Int) := by omega
      have i3 : (k : Int) < (n : Int) := by omega
      have C3 : Hid (∀ w, Calls Try.prog 30 #[.int .i64 (L.getD k 0), .int .i64 (-1000000000), .int .i64 1000000000] w fun e w' => e = .returned (.bool (inn (L.getD k 0) (-1000000000) 1000000000)) ∧ w' = w) := fun w => s_in _ _ _ w
      cases hz : inn (L.getD k 0) (-1000000000) 1000000000
      · have HF : Hid (R = false) := (by
          show _ = _
          rw [HR.out, List.all_eq_false]
          exact ⟨L.getD k 0, by simp [List.getD_eq_getElem?_getD, hkl], by rw [hz]; simp⟩)
        rw [hz] at C3
        clear hz
        generalize L.getD k 0 = z at *
        go_wp2_with fail
        refine (C3.out _).mono ?_
        rintro e w3 ⟨rfl, hw⟩
        have hw' := hw.symm
        subst hw'
        go_wp2_with fail
        go_ret
        exact ⟨by rw [HF.out]; rfl, B0.out⟩
      · have OK2 : Hid (∀ j, j < k + 1 → inn (L.getD j 0) (-1000000000) 1000000000 = true) := fun j hj => by
          by_cases e : j = k
          · rw [e]; exact hz
          · exact OK.out j (by omega)
        rw [hz] at C3
        clear hz
        generalize L.getD k 0 = z at *
        go_wp2_with fail
        refine (C3.out _).mono ?_
        rintro e w3 ⟨rfl, hw⟩
        have hw' := hw.symm
        subst hw'
        go_wp2_with fail
        go_round
        case rel => exact ⟨k + 1, by omega, by go_num, OK2⟩
        case measure => simp [intOf]; omega
    · have HT : Hid (R = true) := (by
        show _ = _
        rw [HR.out, List.all_eq_true]
        intro d hd
        obtain ⟨j, hj, rfl⟩ := List.getElem_of_mem hd
        have := OK.out j (by have := HN.out; omega)
        simpa [List.getD_eq_getElem?_getD, hj] using this)
      go_wp2_with fail
      go_ret
      exact ⟨by rw [HT.out]; rfl, B0.out⟩
theorem sok_any (x y : Int) (L : List Int) (v : Value) (w : World) (hL : Lists.Reads w v L) (hf : L.length < 9223372036854775808) :
    Calls Try.prog 16 #[sv x y v] w fun e w' => e = .returned (.bool (okB x y L)) ∧ Below w.heap.size w w' := by
  unfold okB
  cases h : heads x y L.length
  · obtain ⟨a, cap, rfl⟩ := hL.form
    exact sok_no x y a L.length cap w hf h
  · exact sok_yes x y L v w hL h
end Go.Proofs.Ytagkbglgdmajhaa.Bx
