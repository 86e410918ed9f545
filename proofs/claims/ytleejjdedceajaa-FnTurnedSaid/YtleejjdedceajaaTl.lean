/- The law of turns, walked. -/
import Derived.Test.YtleejjdedceajaaTn
namespace Go.Proofs.Ytleejjdedceajaa.Flt
open Go.ChangeShapes Go.WideShapes Go.ChangeAt Go.RowKit
open Go.Proofs.Ytleejjdedceajaa.Wa Go.Proofs.Ytleejjdedceajaa.Rd
attribute [local go_sem] run_store_float

set_option maxHeartbeats 1000000 in
theorem draw_any (a : Option Addr) (n0 cap : Nat) (w : World) (hc : Go.Proofs.Ytleejjdedceajaa.Rd.Code w a n0 cap) (hn0 : n0 ≤ 1048576) : Calls Try.prog 5 #[.slice a n0 cap] w fun e w' => (∃ u : Int, e = .returned (.int .i64 u)) ∧ Below w.heap.size w w' := by
  have O : Hid (Calls Try.prog 12 #[.slice a n0 cap] w fun e w' => e = .returned (.pointer (some ⟨w.heap.size, 0, none⟩)) ∧ w' = w.alloc (.cells #[.slice a n0 cap, .int .i64 0] 45)) := open_any _ a n0 cap rfl w
  have K0 : Hid (Rd w.heap.size (w.alloc (.cells #[.slice a n0 cap, .int .i64 0] 45))) := Rd.new hc hn0 (Below.refl _ _)
  have B0 : Hid (Below w.heap.size w (w.alloc (.cells #[.slice a n0 cap, .int .i64 0] 45))) := (Below.refl _ _).alloc (Nat.le_refl _) _
  clear hc
  go_enter Try.func5, Try.ntmps5
  go_wp2_with fail
  refine O.out.mono ?_
  rintro e w1 ⟨rfl, hw⟩
  rw [← hw] at K0 B0
  clear hw O
  go_wp2_with fail
  refine (once_any _ _ K0.out 6 (by omega) (by omega)).mono ?_
  rintro e w2 ⟨⟨u, rfl⟩, k2, t2⟩
  have K2 : Hid (Rd w.heap.size w2) := k2
  have B2 : Hid (Below w.heap.size w w2) := B0.out.trans t2.bel
  clear k2 t2
  cases u
  · go_wp2_with fail
    refine (below_any _ _ K2.out 80 (by omega) (by omega)).mono ?_
    rintro e w3 ⟨⟨u, hu, rfl⟩, k3, t3⟩
    have B3 : Hid (Below w.heap.size w w3) := B2.out.trans t3.bel
    have e1 : IntKind.i64.wrap (u - 40) = u - 40 := IntWalk.i64_in _ (by omega)
    clear k3 t3
    go_wp2_with fail
    go_ret
    exact ⟨⟨_, rfl⟩, B3.out⟩
  · go_wp2_with fail
    refine (number_any _ _ K2.out).mono ?_
    rintro e w3 ⟨⟨u, hu, rfl⟩, k3, t3⟩
    have B3 : Hid (Below w.heap.size w w3) := B2.out.trans t3.bel
    clear k3 t3
    go_wp2_with fail
    go_ret
    exact ⟨⟨_, rfl⟩, B3.out⟩

set_option maxRecDepth 20000 in
set_option maxHeartbeats 4000000 in
theorem turnedLaw (a : Option Addr) (len cap : Nat) (w : World) (hc : Go.Proofs.Ytleejjdedceajaa.Rd.Code w a len cap) (hn : len < 9223372036854775808) : Calls Try.prog 3 #[.slice a len cap] w fun e w' => e = .returned (.bool true) ∧ Below w.heap.size w w' := by
  by_cases hl : 1048576 < len
  · have C : Hid (Calls Try.prog 4 #[.slice a len cap] w fun e w' => e = .returned (.bool true) ∧ w' = w) := big_yes a len cap w hl hn
    clear hc
    go_enter Try.func3, Try.ntmps3
    go_wp2_with fail
    refine C.out.mono ?_
    rintro e w1 ⟨rfl, hw⟩
    subst hw
    go_wp2_with fail
    go_ret
    exact ⟨rfl, Below.refl _ _⟩
  have C : Hid (Calls Try.prog 4 #[.slice a len cap] w fun e w' => e = .returned (.bool false) ∧ w' = w) := big_no a len cap w (by omega)
  have D : Hid (Calls Try.prog 5 #[.slice a len cap] w fun e w' => (∃ u : Int, e = .returned (.int .i64 u)) ∧ Below w.heap.size w w') := draw_any a len cap w hc (by omega)
  clear hc
  go_enter Try.func3, Try.ntmps3
  go_wp2_with fail
  refine C.out.mono ?_
  rintro e w1 ⟨rfl, hw⟩
  have hw' := hw.symm
  subst hw'
  clear hw
  go_wp2_with fail
  refine D.out.mono ?_
  rintro e w1 ⟨⟨u, rfl⟩, hb⟩
  have B1 : Hid (Below w.heap.size w w1) := hb
  have kb := tm_bound u
  obtain ⟨k, hk⟩ : ∃ k, k = u.tmod 36 := ⟨_, rfl⟩
  have HK : Hid (k = u.tmod 36) := hk
  rw [← hk] at kb
  have ek : u.tmod 36 = k := hk.symm
  have ek1 : IntKind.i64.wrap k = k := IntWalk.i64_in _ (by omega)
  have e36 : IntKind.i64.wrap (k + 36) = k + 36 := IntWalk.i64_in _ (by omega)
  have e18 : IntKind.i64.wrap (k + 18) = k + 18 := IntWalk.i64_in _ (by omega)
  have e9 : IntKind.i64.wrap (k + 9) = k + 9 := IntWalk.i64_in _ (by omega)
  obtain ⟨m, hm⟩ : ∃ m : Nat, (m : Int) = k % 36 := ⟨(k % 36).toNat, by omega⟩
  have hm36 : m < 36 := by omega
  obtain ⟨x, y, ADD, ox, oy⟩ := addP m hm36
  obtain ⟨x', y', MUL, ox', oy'⟩ := mulP m hm36
  have T0 : Hid (∀ w : World, Calls Try.prog 6 #[.int .i64 k] w fun e w' => e = .returned (pr (sm (m + 9)) (sm m)) ∧ Below w.heap.size w w') := iturnP k m hm
  have T36 : Hid (∀ w : World, Calls Try.prog 6 #[.int .i64 (k + 36)] w fun e w' => e = .returned (pr (sm (m + 9)) (sm m)) ∧ Below w.heap.size w w') := iturnP (k + 36) m (by omega)
  have hs18 : ∀ w : World, Calls Try.prog 6 #[.int .i64 (k + 18)] w fun e w' => e = .returned (pr (sm (m + 27)) (sm (m + 18))) ∧ Below w.heap.size w w' := fun w => by
    have := iturnP (k + 18) ((m + 18) % 36) (by omega) w
    have q1 : sm ((m + 18) % 36 + 9) = sm (m + 27) := by unfold sm; congr 2; omega
    have q2 : sm ((m + 18) % 36) = sm (m + 18) := by unfold sm; congr 2; omega
    rw [q1, q2] at this
    exact this
  have T18 : Hid (∀ w : World, Calls Try.prog 6 #[.int .i64 (k + 18)] w fun e w' => e = .returned (pr (sm (m + 27)) (sm (m + 18))) ∧ Below w.heap.size w w') := hs18
  have hs9 : ∀ w : World, Calls Try.prog 6 #[.int .i64 (k + 9)] w fun e w' => e = .returned (pr (sm (m + 18)) (sm (m + 9))) ∧ Below w.heap.size w w' := fun w => by
    have := iturnP (k + 9) ((m + 9) % 36) (by omega) w
    have q1 : sm ((m + 9) % 36 + 9) = sm (m + 18) := by unfold sm; congr 2; omega
    have q2 : sm ((m + 9) % 36) = sm (m + 9) := by unfold sm; congr 2; omega
    rw [q1, q2] at this
    exact this
  have T9 : Hid (∀ w : World, Calls Try.prog 6 #[.int .i64 (k + 9)] w fun e w' => e = .returned (pr (sm (m + 18)) (sm (m + 9))) ∧ Below w.heap.size w w') := hs9
  have TQ : Hid (∀ w : World, Calls Try.prog 6 #[.int .i64 9] w fun e w' => e = .returned (pr (sm 18) (sm 9)) ∧ Below w.heap.size w w') := iturnP 9 9 (by omega)
  have ST : Hid (∀ w : World, Calls Try.prog 8 #[.int .i64 k] w fun e w' => e = .returned (pr (sm (m + 9)) (sm m)) ∧ Below w.heap.size w w') := sturnP k m hm
  have SM1 : Hid (∀ w : World, Calls Try.prog 7 #[.float .f64 (sm (m + 9)), .float .f64 (sm (m + 9))] w fun e w' => e = .returned (.bool true) ∧ w' = w) := sameP (m + 9)
  have SM0 : Hid (∀ w : World, Calls Try.prog 7 #[.float .f64 (sm m), .float .f64 (sm m)] w fun e w' => e = .returned (.bool true) ∧ w' = w) := sameP m
  have AD : Hid (∀ w : World, Calls Try.prog 10 #[pr (sm (m + 9)) (sm m), pr (sm (m + 27)) (sm (m + 18))] w fun e w' => e = .returned (pr x y) ∧ Below w.heap.size w w') := ADD
  have MU : Hid (∀ w : World, Calls Try.prog 11 #[pr (sm 18) (sm 9), pr (sm (m + 9)) (sm m)] w fun e w' => e = .returned (pr x' y') ∧ Below w.heap.size w w') := MUL
  have E1 : Hid (∀ w : World, Calls Try.prog 9 #[pr x y, pr 0 0] w fun e w' => e = .returned (.bool true) ∧ Below w.heap.size w w') := equal_any x y 0 0 ox oy
  have E2 : Hid (∀ w : World, Calls Try.prog 9 #[pr x' y', pr (sm (m + 18)) (sm (m + 9))] w fun e w' => e = .returned (.bool true) ∧ Below w.heap.size w w') := equal_any x' y' _ _ ox' oy'
  clear ADD MUL ox oy ox' oy' hs18 hs9 hb hk hm hm36 D C
  generalize sm (m + 9) = T at *
  generalize sm m = U at *
  generalize sm (m + 18) = V at *
  generalize sm (m + 27) = X at *
  generalize sm 18 = Q at *
  generalize sm 9 = R at *
  go_wp2_with fail
  refine (T0.out _).mono ?_
  rintro e w2 ⟨rfl, hb2⟩
  have B2 : Hid (Below w.heap.size w w2) := B1.out.trans (hb2.mono B1.out.size)
  obtain ⟨w3, hw3⟩ : ∃ w3, w3 = w2.alloc (.cells #[.float .f64 T, .float .f64 U] 27) := ⟨_, rfl⟩
  have HW3 : Hid (w3 = w2.alloc (.cells #[.float .f64 T, .float .f64 U] 27)) := hw3
  have B3 : Hid (Below w.heap.size w w3) := (by show Below _ _ _; rw [hw3]; exact B2.out.alloc B2.out.size _)
  have G1 : Hid (w3.cell? ⟨w2.heap.size, 0, none⟩ = some (.float .f64 T) ∧ w3.cell? ⟨w2.heap.size, 1, none⟩ = some (.float .f64 U) ∧ w2.heap.size < w3.heap.size) := (by show _ ∧ _; rw [hw3]; simp [go_sem])
  clear hb2 hw3
  go_wp2_with fail
  rw [← HW3.out]
  refine (T36.out _).mono ?_
  rintro e w4 ⟨rfl, hb4⟩
  have B4 : Hid (Below w.heap.size w w4) := B3.out.trans (hb4.mono B3.out.size)
  have G14 : Hid (w4.cell? ⟨w2.heap.size, 0, none⟩ = some (.float .f64 T) ∧ w4.cell? ⟨w2.heap.size, 1, none⟩ = some (.float .f64 U) ∧ w2.heap.size < w4.heap.size) := ⟨(hb4.cell (p := ⟨w2.heap.size, 0, none⟩) G1.out.2.2).trans G1.out.1, (hb4.cell (p := ⟨w2.heap.size, 1, none⟩) G1.out.2.2).trans G1.out.2.1, Nat.lt_of_lt_of_le G1.out.2.2 hb4.size⟩
  obtain ⟨w5, hw5⟩ : ∃ w5, w5 = w4.alloc (.cells #[.float .f64 T, .float .f64 U] 27) := ⟨_, rfl⟩
  have HW5 : Hid (w5 = w4.alloc (.cells #[.float .f64 T, .float .f64 U] 27)) := hw5
  have B5 : Hid (Below w.heap.size w w5) := (by show Below _ _ _; rw [hw5]; exact B4.out.alloc B4.out.size _)
  have BA : Below w4.heap.size w4 w5 := by rw [hw5]; exact (Below.refl _ _).alloc (Nat.le_refl _) _
  have G2 : Hid (w5.cell? ⟨w4.heap.size, 0, none⟩ = some (.float .f64 T) ∧ w5.cell? ⟨w4.heap.size, 1, none⟩ = some (.float .f64 U) ∧ w4.heap.size < w5.heap.size) := (by show _ ∧ _; rw [hw5]; simp [go_sem])
  have G15 : Hid (w5.cell? ⟨w2.heap.size, 0, none⟩ = some (.float .f64 T) ∧ w5.cell? ⟨w2.heap.size, 1, none⟩ = some (.float .f64 U) ∧ w2.heap.size < w5.heap.size) := ⟨(BA.cell (p := ⟨w2.heap.size, 0, none⟩) G14.out.2.2).trans G14.out.1, (BA.cell (p := ⟨w2.heap.size, 1, none⟩) G14.out.2.2).trans G14.out.2.1, Nat.lt_of_lt_of_le G14.out.2.2 BA.size⟩
  clear hb4 hw5 BA G1 G14 HW3
  have KB : Hid (∀ w', Below w5.heap.size w5 w' → (w'.cell? ⟨w2.heap.size, 0, none⟩ = some (.float .f64 T) ∧ w'.cell? ⟨w2.heap.size, 1, none⟩ = some (.float .f64 U)) ∧ (w'.cell? ⟨w4.heap.size, 0, none⟩ = some (.float .f64 T) ∧ w'.cell? ⟨w4.heap.size, 1, none⟩ = some (.float .f64 U))) := fun w' hb => ⟨⟨(hb.cell (p := ⟨w2.heap.size, 0, none⟩) G15.out.2.2).trans G15.out.1, (hb.cell (p := ⟨w2.heap.size, 1, none⟩) G15.out.2.2).trans G15.out.2.1⟩, (hb.cell (p := ⟨w4.heap.size, 0, none⟩) G2.out.2.2).trans G2.out.1, (hb.cell (p := ⟨w4.heap.size, 1, none⟩) G2.out.2.2).trans G2.out.2.1⟩
  have BK : Hid (∀ w', Below w5.heap.size w5 w' → Below w.heap.size w w') := fun w' hb => B5.out.trans (hb.mono B5.out.size)
  obtain ⟨⟨k0, k1⟩, k2, k3⟩ := KB.out w5 (Below.refl _ _)
  have hf0 : ∀ w, (Instr.field 27 (.agg #[.float .f64 T, .float .f64 U]) 0).run Try.prog w = .ok (.float .f64 T) w := fun w => by kernel_rfl
  go_wp2_with fail
  rw [← HW5.out]
  go_region_held3 (fun w' => w'.cell? ⟨w2.heap.size, 0, none⟩ = some (.float .f64 T) ∧ w'.cell? ⟨w2.heap.size, 1, none⟩ = some (.float .f64 U) ∧ w'.cell? ⟨w4.heap.size, 0, none⟩ = some (.float .f64 T) ∧ w'.cell? ⟨w4.heap.size, 1, none⟩ = some (.float .f64 U)) (go_keep)
    (first
    | (go_at_call 8; refine (ST.out _).mono ?_; rintro e w6 ⟨rfl, hb⟩; have B6 : Hid (Below w5.heap.size w5 w6) := (Below.refl w5.heap.size w5).drew.trans hb; obtain ⟨⟨m0, m1⟩, m2, m3⟩ := KB.out w6 B6.out; clear hb)
    | (go_at_call_of 7 (Value.float FloatKind.f64 T); refine (SM1.out _).mono ?_; rintro e w7 ⟨rfl, hw⟩; subst hw)
    | (go_at_call_of 7 (Value.float FloatKind.f64 U); refine (SM0.out _).mono ?_; rintro e w7 ⟨rfl, hw⟩; subst hw))
  go_wp2_with fail
  go_region_held3 (fun w' => w'.cell? ⟨w2.heap.size, 0, none⟩ = some (.float .f64 T) ∧ w'.cell? ⟨w2.heap.size, 1, none⟩ = some (.float .f64 U) ∧ w'.cell? ⟨w4.heap.size, 0, none⟩ = some (.float .f64 T) ∧ w'.cell? ⟨w4.heap.size, 1, none⟩ = some (.float .f64 U)) (go_keep)
    (first
    | (go_at_call 6; (with_reducible refine (T18.out _).mono ?_); rintro e w20 ⟨rfl, hb⟩; have B20 : Hid (Below w5.heap.size w5 w20) := B6.out.drew.trans (hb.mono B6.out.drew.size); obtain ⟨⟨n0_0, n0_1⟩, n0_2, n0_3⟩ := KB.out w20 B20.out; clear hb)
    | (go_at_call 10; (with_reducible refine (AD.out _).mono ?_); rintro e w21 ⟨rfl, hb⟩; have B21 : Hid (Below w5.heap.size w5 w21) := B20.out.trans (hb.mono B20.out.size); obtain ⟨⟨n1_0, n1_1⟩, n1_2, n1_3⟩ := KB.out w21 B21.out; clear hb)
    | (go_at_call 9; (with_reducible refine (E1.out _).mono ?_); rintro e w22 ⟨rfl, hb⟩; have B22 : Hid (Below w5.heap.size w5 w22) := B21.out.trans (hb.mono B21.out.size); obtain ⟨⟨n2_0, n2_1⟩, n2_2, n2_3⟩ := KB.out w22 B22.out; clear hb)
    | (go_at_call 6; (with_reducible refine (TQ.out _).mono ?_); rintro e w23 ⟨rfl, hb⟩; have B23 : Hid (Below w5.heap.size w5 w23) := B22.out.trans (hb.mono B22.out.size); obtain ⟨⟨n3_0, n3_1⟩, n3_2, n3_3⟩ := KB.out w23 B23.out; clear hb)
    | (go_at_call 11; (with_reducible refine (MU.out _).mono ?_); rintro e w24 ⟨rfl, hb⟩; have B24 : Hid (Below w5.heap.size w5 w24) := B23.out.trans (hb.mono B23.out.size); obtain ⟨⟨n4_0, n4_1⟩, n4_2, n4_3⟩ := KB.out w24 B24.out; clear hb)
    | (go_at_call 6; (with_reducible refine (T9.out _).mono ?_); rintro e w25 ⟨rfl, hb⟩; have B25 : Hid (Below w5.heap.size w5 w25) := B24.out.trans (hb.mono B24.out.size); obtain ⟨⟨n5_0, n5_1⟩, n5_2, n5_3⟩ := KB.out w25 B25.out; clear hb)
    | (go_at_call 9; (with_reducible refine (E2.out _).mono ?_); rintro e w26 ⟨rfl, hb⟩; have B26 : Hid (Below w5.heap.size w5 w26) := B25.out.trans (hb.mono B25.out.size); obtain ⟨⟨n6_0, n6_1⟩, n6_2, n6_3⟩ := KB.out w26 B26.out; clear hb))
  go_wp2_with fail
  go_ret
  exact ⟨rfl, BK.out _ B26.out⟩
end Go.Proofs.Ytleejjdedceajaa.Flt
