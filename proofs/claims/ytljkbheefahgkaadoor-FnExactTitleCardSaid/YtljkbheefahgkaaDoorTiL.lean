/- A title: the law, walked. -/
import Derived.Test.YtljkbheefahgkaaDoorTiI
import Derived.Test.YtljkbheefahgkaaDoorRunf
namespace Go.Proofs.YtljkbheefahgkaaDoor.Ru
open Go.ChangeShapes Go.WideShapes Go.ChangeAt Go.RowKit
theorem both (s : ByteArray) (n : Int) : ∃ t : ByteArray, (∀ w, Calls Tryd.prog 4 #[.string s, .int .i64 n] w fun e w' => e = .returned (.string t) ∧ Below w.heap.size w w') ∧ ∀ w, Calls Tryd.prog 5 #[.string s, .int .i64 n] w fun e w' => e = .returned (.string t) ∧ Below w.heap.size w w' := by
  by_cases h : 1 ≤ n ∧ n ≤ 1000
  · by_cases hs : s.size ≤ 20000
    · obtain ⟨m, rfl⟩ : ∃ m : Nat, n = (m : Int) := ⟨n.toNat, by omega⟩
      exact ⟨_, fun w => stitle_yes s m w hs (by omega) (by omega) (fun p w hp => rune_any s p w (by omega) hp), fun w => ititle_yes s m w hs (by omega) (by omega)⟩
    · have hk : okm n = false ∨ (okm n = true ∧ 20000 < s.size) := .inr ⟨okm_yes h.1 h.2, by omega⟩
      exact ⟨_, fun w => (stitle_no s n w hk).mono (by rintro e w' ⟨rfl, rfl⟩; exact ⟨rfl, Below.refl _ _⟩), fun w => (ititle_no s n w hk).mono (by rintro e w' ⟨rfl, rfl⟩; exact ⟨rfl, Below.refl _ _⟩)⟩
  · have hk : okm n = false ∨ (okm n = true ∧ 20000 < s.size) := .inl (okm_no h)
    exact ⟨_, fun w => (stitle_no s n w hk).mono (by rintro e w' ⟨rfl, rfl⟩; exact ⟨rfl, Below.refl _ _⟩), fun w => (ititle_no s n w hk).mono (by rintro e w' ⟨rfl, rfl⟩; exact ⟨rfl, Below.refl _ _⟩)⟩
set_option maxHeartbeats 400000 in
theorem titleLaw (s : ByteArray) (n : Int) (w : World) : Calls Tryd.prog 3 #[.string s, .int .i64 n] w fun e w' => e = .returned (.bool true) ∧ Below w.heap.size w w' := by
  obtain ⟨t, h1, h2⟩ := both s n
  have H1 : Hid (∀ w, Calls Tryd.prog 4 #[.string s, .int .i64 n] w fun e w' => e = .returned (.string t) ∧ Below w.heap.size w w') := h1
  have H2 : Hid (∀ w, Calls Tryd.prog 5 #[.string s, .int .i64 n] w fun e w' => e = .returned (.string t) ∧ Below w.heap.size w w') := h2
  clear h1 h2
  have ne : (t.toList != t.toList) = false := by simp
  by_cases far : (1048576 : Int) < (s.size : Int)
  · go_enter Tryd.func3, Tryd.ntmps3
    go_wp2_with fail
    go_ret
    exact ⟨rfl, Below.refl _ _⟩
  · go_enter Tryd.func3, Tryd.ntmps3
    go_wp2_with fail
    refine (H1.out _).mono ?_
    rintro e w1 ⟨rfl, b1⟩
    have B1 : Hid (Below w.heap.size w w1) := b1
    clear b1
    go_wp2_with fail
    refine (H2.out _).mono ?_
    rintro e w2 ⟨rfl, b2⟩
    have B2 : Hid (Below w.heap.size w w2) := B1.out.trans (b2.mono B1.out.size)
    clear b2
    go_wp2_with fail
    go_ret
    exact ⟨rfl, B2.out⟩
end Go.Proofs.YtljkbheefahgkaaDoor.Ru
