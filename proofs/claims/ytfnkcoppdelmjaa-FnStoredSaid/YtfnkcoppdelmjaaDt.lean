/- Times drawn. -/
import Derived.Test.YtfnkcoppdelmjaaAw
namespace Go.Proofs.Ytfnkcoppdelmjaa.Rd
open Go.ChangeShapes Go.WideShapes Go.ChangeAt Go.RowKit
set_option maxHeartbeats 1000000 in
theorem word_any (r : Nat) (w : World) (h : Rd r w) :
    Calls Try.prog 54 #[.pointer (some ⟨r, 0, none⟩)] w fun e w' => (∃ u : Int, 0 ≤ u ∧ u < 18446744073709551616 ∧ e = .returned (.int .u64 u)) ∧ Rd r w' ∧ Turn r w w' := by
  go_enter Try.func54, Try.ntmps54
  go_wp2
  go_loopw [3, 4] (fun s i wr => ∃ (k : Nat) (x : Int), k ≤ 8 ∧ 0 ≤ x ∧ x < 18446744073709551616 ∧ i = .int .i64 k ∧ s = .int .u64 x ∧ Rd r wr ∧ Turn r w wr) (fun _ i _ => 8 - (intOf i).toNat)
  case atStart => exact ⟨0, 0, by omega, by omega, by omega, rfl, rfl, h, Turn.refl _ _⟩
  case round =>
    obtain ⟨k, x, hk, hx0, hx1, rfl, rfl, k1, k2⟩ := hrel
    by_cases hlt : k < 8
    · have i1 : (k : Int) < 8 := by omega
      go_wp2_with fail
      refine (next_any r _ k1).mono ?_
      rintro e w1 ⟨⟨u, hu, rfl⟩, k3, k4⟩
      go_wp2_with fail
      have hb := or_in (IntKind.u64.wrap (x * 256)) u
      exact ⟨⟨k + 1, _, by omega, hb.1, hb.2, by go_num, rfl, k3, k2.trans k4⟩, by simp [intOf]; omega⟩
    · have i1 : ¬ ((k : Int) < 8) := by omega
      go_wp2_with fail
      go_ret
      exact ⟨⟨_, hx0, hx1, rfl⟩, k1, k2⟩


set_option maxHeartbeats 1000000 in
theorem time_any (r : Nat) (w : World) (h : Rd r w) :
    Calls Try.prog 38 #[.pointer (some ⟨r, 0, none⟩)] w (Drawn r w Any) := by
  go_enter Try.func38, Try.ntmps38
  go_wp2_with fail
  refine (below_any r _ h 6 (by omega) (by omega)).mono ?_
  rintro e w1 ⟨⟨u, ⟨hu1, hu2⟩, rfl⟩, k1, k2⟩
  by_cases u0 : u = 0
  · go_wp2_with fail
    refine (below_any r _ k1 3000 (by omega) (by omega)).mono ?_
    rintro e w2 ⟨⟨v, ⟨hv1, hv2⟩, rfl⟩, k3, k4⟩
    go_wp2_with fail
    go_ret
    exact ⟨⟨_, trivial, rfl⟩, k3, k2.trans k4⟩
  · by_cases u1 : u = 1
    · go_wp2_with fail
      refine (below_any r _ k1 3000 (by omega) (by omega)).mono ?_
      rintro e w2 ⟨⟨v, ⟨hv1, hv2⟩, rfl⟩, k3, k4⟩
      go_wp2_with fail
      go_ret
      exact ⟨⟨_, trivial, rfl⟩, k3, k2.trans k4⟩
    · by_cases u2 : u = 2
      · go_wp2_with fail
        refine (word_any r _ k1).mono ?_
        rintro e w2 ⟨⟨v, hv1, hv2, rfl⟩, k3, k4⟩
        go_wp2_with fail
        go_ret
        exact ⟨⟨_, trivial, rfl⟩, k3, k2.trans k4⟩
      · go_wp2_with fail
        refine (below_any r _ k1 60000 (by omega) (by omega)).mono ?_
        rintro e w2 ⟨⟨v, ⟨hv1, hv2⟩, rfl⟩, k3, k4⟩
        go_wp2_with fail
        go_ret
        exact ⟨⟨_, trivial, rfl⟩, k3, k2.trans k4⟩

theorem six_of (z : Int) (h0 : 0 ≤ z) (h1 : z < 6) : ∃ q : Int, ([.int .i64 (-1), .int .i64 52596000, .int .i64 52596001, .int .i64 0, .int .i64 9223372036854775807, .int .i64 (-9223372036854775808)] : List Value)[z.toNat]? = some (.int .i64 q) := by
  rcases oneOf z h0 h1 with rfl | rfl | rfl | rfl | rfl | rfl
  · exact ⟨-1, rfl⟩
  · exact ⟨52596000, rfl⟩
  · exact ⟨52596001, rfl⟩
  · exact ⟨0, rfl⟩
  · exact ⟨9223372036854775807, rfl⟩
  · exact ⟨-9223372036854775808, rfl⟩
set_option maxHeartbeats 1000000 in
theorem drawtime_any (r : Nat) (w : World) (h : Rd r w) : Calls Try.prog 18 #[.pointer (some ⟨r, 0, none⟩)] w (Drawn r w Any) := by
  go_enter Try.func18, Try.ntmps18
  go_wp2_with fail
  refine (once_any r _ h 12 (by omega) (by omega)).mono ?_
  rintro e w1 ⟨⟨u, rfl⟩, k1, t1⟩
  cases u
  · go_wp2_with fail
    refine (time_any r _ k1).mono ?_
    rintro e w2 ⟨⟨v, hv, rfl⟩, k2, t2⟩
    go_wp2_with fail
    go_ret
    exact ⟨⟨_, trivial, rfl⟩, k2, t1.trans t2⟩
  · have n1 := k1.lt
    have K : Hid (Rd r (w1.alloc (.cells #[.int .i64 (-1), .int .i64 52596000, .int .i64 52596001, .int .i64 0, .int .i64 9223372036854775807, .int .i64 (-9223372036854775808)] 2)) ∧ Turn r w (w1.alloc (.cells #[.int .i64 (-1), .int .i64 52596000, .int .i64 52596001, .int .i64 0, .int .i64 9223372036854775807, .int .i64 (-9223372036854775808)] 2))) := ⟨k1.kept ((Below.refl (r + 1) w1).alloc (by omega) _) (by omega), t1.alloc h.lt _⟩
    clear k1 t1 h
    go_wp2_with fail
    refine (below_all r _ K.out.1 6 (by omega) (by omega)).mono ?_
    rintro e w2 ⟨⟨z, ⟨hz1, hz2⟩, rfl⟩, k2, t2⟩
    replace hz2 : z < 6 := hz2
    obtain ⟨q, hq⟩ := six_of z hz1 hz2
    have c2 := Ed.turn_cell t2 n1 hq
    have K2 : Hid (Rd r w2 ∧ Turn r w w2) := ⟨k2, K.out.2.trans t2⟩
    clear k2 t2 K hq
    go_wp2_with fail
    go_ret
    exact ⟨⟨_, trivial, rfl⟩, K2.out.1, K2.out.2⟩
end Go.Proofs.Ytfnkcoppdelmjaa.Rd
