/- Order statistics: what is refused, model and program. -/
import Derived.Test.YtjcehjnkdnclbaaOw
namespace Go.Proofs.Ytjcehjnkdnclbaa.Os
open Go.ChangeShapes Go.WideShapes Go.ChangeAt Go.RowKit
open Go.Proofs.Ytjcehjnkdnclbaa.Lists Go.Proofs.Ytjcehjnkdnclbaa.Al Go.Proofs.Ytjcehjnkdnclbaa.Se


set_option maxHeartbeats 1000000 in
theorem istat_no0 (L : List Int) (k : Int) (v : Value) (w : World) (hL : Lists.Reads w v L) (hf : L.length < 9223372036854775808) (h0 : okS L = false) :
    Calls Try.prog 8 #[v, .int .i64 k] w fun e w' => e = .returned (.tuple #[.int .i64 0, .bool false]) ∧ ∃ m, w' = w.drewN m := by
  have C : Hid (Calls Try.prog 15 #[v] w fun e w' => e = .returned (.bool (okS L)) ∧ ∃ m, w' = w.drewN m) := (iok_any L v w hL hf).mono (fun e w' h => ⟨h.1, 0, h.2⟩)
  rw [h0] at C
  obtain ⟨a, cap, rfl⟩ := hL.form
  clear hL h0
  generalize L.length = n at *
  go_enter Try.func8, Try.ntmps8
  go_wp2_with fail
  refine C.out.mono ?_
  rintro e w1 ⟨rfl, m0, rfl⟩
  go_wp2_with fail
  go_ret2
  exact ⟨rfl, _, rfl⟩

set_option maxHeartbeats 1000000 in
theorem istat_no1 (L : List Int) (k : Int) (v : Value) (w : World) (hL : Lists.Reads w v L) (hf : L.length < 9223372036854775808) (h0 : okS L = true) (h1 : inn k 1 L.length = false) :
    Calls Try.prog 8 #[v, .int .i64 k] w fun e w' => e = .returned (.tuple #[.int .i64 0, .bool false]) ∧ ∃ m, w' = w.drewN m := by
  have C : Hid (Calls Try.prog 15 #[v] w fun e w' => e = .returned (.bool (okS L)) ∧ ∃ m, w' = w.drewN m) := (iok_any L v w hL hf).mono (fun e w' h => ⟨h.1, 0, h.2⟩)
  have D0 : Hid (∀ m, Calls Try.prog 16 #[.int .i64 k, .int .i64 1, .int .i64 (L.length : Int)] (w.drewN m) fun e w' => e = .returned (.bool (inn k 1 L.length)) ∧ w' = w.drewN m) := fun m => i_in _ _ _ _
  rw [h0] at C
  rw [h1] at D0
  obtain ⟨a, cap, rfl⟩ := hL.form
  clear hL h0 h1
  generalize L.length = n at *
  go_enter Try.func8, Try.ntmps8
  go_wp2_with fail
  refine C.out.mono ?_
  rintro e w1 ⟨rfl, m0, rfl⟩
  go_wp2_with fail
  refine (D0.out m0).mono ?_
  rintro e w2 ⟨rfl, hw⟩
  subst hw
  go_wp2_with fail
  go_ret2
  exact ⟨rfl, _, rfl⟩

set_option maxHeartbeats 1000000 in
theorem sshare_no0 (L : List Int) (num den : Int) (v : Value) (w : World) (hL : Lists.Reads w v L) (hf : L.length < 9223372036854775808) (h0 : okS L = false) :
    Calls Try.prog 6 #[v, .int .i64 num, .int .i64 den] w fun e w' => e = .returned (.tuple #[.int .i64 0, .bool false]) ∧ ∃ m, w' = w.drewN m := by
  have C : Hid (Calls Try.prog 12 #[v] w fun e w' => e = .returned (.bool (okS L)) ∧ ∃ m, w' = w.drewN m) := sok_any L v w hL hf
  rw [h0] at C
  obtain ⟨a, cap, rfl⟩ := hL.form
  clear hL h0
  generalize L.length = n at *
  go_enter Try.func6, Try.ntmps6
  go_wp2_with fail
  refine C.out.mono ?_
  rintro e w1 ⟨rfl, m0, rfl⟩
  go_wp2_with fail
  go_ret2
  exact ⟨rfl, _, rfl⟩

set_option maxHeartbeats 1000000 in
theorem sshare_no1 (L : List Int) (num den : Int) (v : Value) (w : World) (hL : Lists.Reads w v L) (hf : L.length < 9223372036854775808) (h0 : okS L = true) (h1 : inn den 1 1000 = false) :
    Calls Try.prog 6 #[v, .int .i64 num, .int .i64 den] w fun e w' => e = .returned (.tuple #[.int .i64 0, .bool false]) ∧ ∃ m, w' = w.drewN m := by
  have C : Hid (Calls Try.prog 12 #[v] w fun e w' => e = .returned (.bool (okS L)) ∧ ∃ m, w' = w.drewN m) := sok_any L v w hL hf
  have D0 : Hid (∀ m, Calls Try.prog 13 #[.int .i64 den, .int .i64 1, .int .i64 1000] (w.drewN m) fun e w' => e = .returned (.bool (inn den 1 1000)) ∧ w' = w.drewN m) := fun m => s_in _ _ _ _
  rw [h0] at C
  rw [h1] at D0
  obtain ⟨a, cap, rfl⟩ := hL.form
  clear hL h0 h1
  generalize L.length = n at *
  go_enter Try.func6, Try.ntmps6
  go_wp2_with fail
  refine C.out.mono ?_
  rintro e w1 ⟨rfl, m0, rfl⟩
  go_wp2_with fail
  refine (D0.out m0).mono ?_
  rintro e w2 ⟨rfl, hw⟩
  subst hw
  go_wp2_with fail
  go_ret2
  exact ⟨rfl, _, rfl⟩

set_option maxHeartbeats 1000000 in
theorem sshare_no2 (L : List Int) (num den : Int) (v : Value) (w : World) (hL : Lists.Reads w v L) (hf : L.length < 9223372036854775808) (h0 : okS L = true) (h1 : inn den 1 1000 = true) (h2 : inn num 1 den = false) :
    Calls Try.prog 6 #[v, .int .i64 num, .int .i64 den] w fun e w' => e = .returned (.tuple #[.int .i64 0, .bool false]) ∧ ∃ m, w' = w.drewN m := by
  have C : Hid (Calls Try.prog 12 #[v] w fun e w' => e = .returned (.bool (okS L)) ∧ ∃ m, w' = w.drewN m) := sok_any L v w hL hf
  have D0 : Hid (∀ m, Calls Try.prog 13 #[.int .i64 den, .int .i64 1, .int .i64 1000] (w.drewN m) fun e w' => e = .returned (.bool (inn den 1 1000)) ∧ w' = w.drewN m) := fun m => s_in _ _ _ _
  have D1 : Hid (∀ m, Calls Try.prog 13 #[.int .i64 num, .int .i64 1, .int .i64 den] (w.drewN m) fun e w' => e = .returned (.bool (inn num 1 den)) ∧ w' = w.drewN m) := fun m => s_in _ _ _ _
  rw [h0] at C
  rw [h1] at D0
  rw [h2] at D1
  obtain ⟨a, cap, rfl⟩ := hL.form
  clear hL h0 h1 h2
  generalize L.length = n at *
  go_enter Try.func6, Try.ntmps6
  go_wp2_with fail
  refine C.out.mono ?_
  rintro e w1 ⟨rfl, m0, rfl⟩
  go_wp2_with fail
  refine (D0.out m0).mono ?_
  rintro e w2 ⟨rfl, hw⟩
  subst hw
  go_wp2_with fail
  refine (D1.out m0).mono ?_
  rintro e w2 ⟨rfl, hw⟩
  subst hw
  go_wp2_with fail
  go_ret2
  exact ⟨rfl, _, rfl⟩

set_option maxHeartbeats 1000000 in
theorem ishare_no0 (L : List Int) (num den : Int) (v : Value) (w : World) (hL : Lists.Reads w v L) (hf : L.length < 9223372036854775808) (h0 : okS L = false) :
    Calls Try.prog 7 #[v, .int .i64 num, .int .i64 den] w fun e w' => e = .returned (.tuple #[.int .i64 0, .bool false]) ∧ ∃ m, w' = w.drewN m := by
  have C : Hid (Calls Try.prog 15 #[v] w fun e w' => e = .returned (.bool (okS L)) ∧ ∃ m, w' = w.drewN m) := (iok_any L v w hL hf).mono (fun e w' h => ⟨h.1, 0, h.2⟩)
  rw [h0] at C
  obtain ⟨a, cap, rfl⟩ := hL.form
  clear hL h0
  generalize L.length = n at *
  go_enter Try.func7, Try.ntmps7
  go_wp2_with fail
  refine C.out.mono ?_
  rintro e w1 ⟨rfl, m0, rfl⟩
  go_wp2_with fail
  go_ret2
  exact ⟨rfl, _, rfl⟩

set_option maxHeartbeats 1000000 in
theorem ishare_no1 (L : List Int) (num den : Int) (v : Value) (w : World) (hL : Lists.Reads w v L) (hf : L.length < 9223372036854775808) (h0 : okS L = true) (h1 : inn den 1 1000 = false) :
    Calls Try.prog 7 #[v, .int .i64 num, .int .i64 den] w fun e w' => e = .returned (.tuple #[.int .i64 0, .bool false]) ∧ ∃ m, w' = w.drewN m := by
  have C : Hid (Calls Try.prog 15 #[v] w fun e w' => e = .returned (.bool (okS L)) ∧ ∃ m, w' = w.drewN m) := (iok_any L v w hL hf).mono (fun e w' h => ⟨h.1, 0, h.2⟩)
  have D0 : Hid (∀ m, Calls Try.prog 16 #[.int .i64 den, .int .i64 1, .int .i64 1000] (w.drewN m) fun e w' => e = .returned (.bool (inn den 1 1000)) ∧ w' = w.drewN m) := fun m => i_in _ _ _ _
  rw [h0] at C
  rw [h1] at D0
  obtain ⟨a, cap, rfl⟩ := hL.form
  clear hL h0 h1
  generalize L.length = n at *
  go_enter Try.func7, Try.ntmps7
  go_wp2_with fail
  refine C.out.mono ?_
  rintro e w1 ⟨rfl, m0, rfl⟩
  go_wp2_with fail
  refine (D0.out m0).mono ?_
  rintro e w2 ⟨rfl, hw⟩
  subst hw
  go_wp2_with fail
  go_ret2
  exact ⟨rfl, _, rfl⟩

set_option maxHeartbeats 1000000 in
theorem ishare_no2 (L : List Int) (num den : Int) (v : Value) (w : World) (hL : Lists.Reads w v L) (hf : L.length < 9223372036854775808) (h0 : okS L = true) (h1 : inn den 1 1000 = true) (h2 : inn num 1 den = false) :
    Calls Try.prog 7 #[v, .int .i64 num, .int .i64 den] w fun e w' => e = .returned (.tuple #[.int .i64 0, .bool false]) ∧ ∃ m, w' = w.drewN m := by
  have C : Hid (Calls Try.prog 15 #[v] w fun e w' => e = .returned (.bool (okS L)) ∧ ∃ m, w' = w.drewN m) := (iok_any L v w hL hf).mono (fun e w' h => ⟨h.1, 0, h.2⟩)
  have D0 : Hid (∀ m, Calls Try.prog 16 #[.int .i64 den, .int .i64 1, .int .i64 1000] (w.drewN m) fun e w' => e = .returned (.bool (inn den 1 1000)) ∧ w' = w.drewN m) := fun m => i_in _ _ _ _
  have D1 : Hid (∀ m, Calls Try.prog 16 #[.int .i64 num, .int .i64 1, .int .i64 den] (w.drewN m) fun e w' => e = .returned (.bool (inn num 1 den)) ∧ w' = w.drewN m) := fun m => i_in _ _ _ _
  rw [h0] at C
  rw [h1] at D0
  rw [h2] at D1
  obtain ⟨a, cap, rfl⟩ := hL.form
  clear hL h0 h1 h2
  generalize L.length = n at *
  go_enter Try.func7, Try.ntmps7
  go_wp2_with fail
  refine C.out.mono ?_
  rintro e w1 ⟨rfl, m0, rfl⟩
  go_wp2_with fail
  refine (D0.out m0).mono ?_
  rintro e w2 ⟨rfl, hw⟩
  subst hw
  go_wp2_with fail
  refine (D1.out m0).mono ?_
  rintro e w2 ⟨rfl, hw⟩
  subst hw
  go_wp2_with fail
  go_ret2
  exact ⟨rfl, _, rfl⟩

set_option maxHeartbeats 1000000 in
theorem up_any (a b : Int) (w : World) (ha : 0 ≤ a ∧ a ≤ 1000000) (hb : 1 ≤ b ∧ b ≤ 1000) :
    Calls Try.prog 17 #[.int .i64 a, .int .i64 b] w fun e w' => e = .returned (.int .i64 ((a + b - 1).tdiv b)) ∧ w' = w := by
  have i3 : ¬ b = 0 := by omega
  have i4 : (b == 0) = false := by simp; omega
  have e : (a + b - 1).tdiv b = (a + b - 1) / b := Int.tdiv_eq_ediv_of_nonneg (by omega)
  have b1 := Int.ediv_nonneg (show 0 ≤ a + b - 1 by omega) (show 0 ≤ b by omega)
  have b2 := Int.ediv_le_self b (show 0 ≤ a + b - 1 by omega)
  have J1 : IntKind.i64.wrap ((a + b - 1).tdiv b) = (a + b - 1).tdiv b := by rw [e]; exact IntWalk.i64_in _ (by omega)
  clear e b1 b2
  go_enter Try.func17, Try.ntmps17
  go_wp2_with fail
  go_ret
  exact ⟨rfl, rfl⟩
end Go.Proofs.Ytjcehjnkdnclbaa.Os
