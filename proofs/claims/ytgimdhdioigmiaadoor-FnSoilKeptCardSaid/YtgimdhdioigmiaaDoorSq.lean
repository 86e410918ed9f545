/- Soils: whether one is right: the program and the model. -/
import Derived.Test.YtgimdhdioigmiaaDoorSp
import Derived.Deep.QuietTactic
import Derived.BigQuiet
import Derived.Laws.MakeOwn
namespace Go.Proofs.YtgimdhdioigmiaaDoor.So
open Go.ChangeShapes Go.WideShapes Go.ChangeAt Go.RowKit


def okB (a b c d f : Int) : Bool := inn a 0 1000000000000 && (inn b 0 400 && (inn c 0 1500 && (inn d 0 1000000000000 && (inn f 0 1000000000000 && decide (f = a + b + c + d)))))
theorem okB_parts {a b c d f : Int} (h : okB a b c d f = true) : (0 ≤ a ∧ a ≤ 1000000000000) ∧ (0 ≤ b ∧ b ≤ 400) ∧ (0 ≤ c ∧ c ≤ 1500) ∧ (0 ≤ d ∧ d ≤ 1000000000000) ∧ (0 ≤ f ∧ f ≤ 1000000000000) ∧ f = a + b + c + d := by
  unfold okB at h
  simp only [Bool.and_eq_true, inn_iff, decide_eq_true_eq] at h
  exact h


set_option maxHeartbeats 1000000 in
theorem iok_any (a b c d f : Int) (w : World) : Calls Tryd.prog 15 #[sv a b c d f] w fun e w' => e = .returned (.bool (okB a b c d f)) ∧ Below w.heap.size w w' := by
  have P0 : Hid (∀ w, Calls Tryd.prog 16 #[.int .i64 a, .int .i64 0, .int .i64 1000000000000] w fun e w' => e = .returned (.bool (inn a 0 1000000000000)) ∧ w' = w) := fun w => i_in _ _ _ w
  have P1 : Hid (∀ w, Calls Tryd.prog 16 #[.int .i64 b, .int .i64 0, .int .i64 400] w fun e w' => e = .returned (.bool (inn b 0 400)) ∧ w' = w) := fun w => i_in _ _ _ w
  have P2 : Hid (∀ w, Calls Tryd.prog 16 #[.int .i64 c, .int .i64 0, .int .i64 1500] w fun e w' => e = .returned (.bool (inn c 0 1500)) ∧ w' = w) := fun w => i_in _ _ _ w
  have P3 : Hid (∀ w, Calls Tryd.prog 16 #[.int .i64 d, .int .i64 0, .int .i64 1000000000000] w fun e w' => e = .returned (.bool (inn d 0 1000000000000)) ∧ w' = w) := fun w => i_in _ _ _ w
  have P4 : Hid (∀ w, Calls Tryd.prog 16 #[.int .i64 f, .int .i64 0, .int .i64 1000000000000] w fun e w' => e = .returned (.bool (inn f 0 1000000000000)) ∧ w' = w) := fun w => i_in _ _ _ w
  have HB : Hid (inn a 0 1000000000000 = true → inn b 0 400 = true → inn c 0 1500 = true → inn d 0 1000000000000 = true → IntKind.i64.wrap (a + b + c + d) = a + b + c + d ∧ IntKind.i64.wrap (a + b + c) = a + b + c ∧ IntKind.i64.wrap (a + b) = a + b) := fun h1 h2 h3 h4 => by
    rw [inn_iff] at h1 h2 h3 h4
    exact ⟨IntWalk.i64_in _ (by omega), IntWalk.i64_in _ (by omega), IntWalk.i64_in _ (by omega)⟩
  unfold okB
  generalize inn a 0 1000000000000 = g0 at *
  generalize inn b 0 400 = g1 at *
  generalize inn c 0 1500 = g2 at *
  generalize inn d 0 1000000000000 = g3 at *
  generalize inn f 0 1000000000000 = g4 at *
  cases g0
  · skip
    go_enter Tryd.func15, Tryd.ntmps15
    go_wp2_with fail
    refine (P0.out _).mono ?_
    rintro e w1 ⟨rfl, hw⟩
    subst hw
    go_wp2_with fail
    go_ret
    refine ⟨rfl, ?_⟩
    repeat' first | exact Below.refl _ _ | refine Below.setCell ?_ (by simp <;> omega) _ | refine Below.alloc ?_ (by simp <;> omega) _
  · skip
    cases g1
    · skip
      go_enter Tryd.func15, Tryd.ntmps15
      go_wp2_with fail
      refine (P0.out _).mono ?_
      rintro e w1 ⟨rfl, hw⟩
      subst hw
      go_wp2_with fail
      refine (P1.out _).mono ?_
      rintro e w2 ⟨rfl, hw⟩
      subst hw
      go_wp2_with fail
      go_ret
      refine ⟨rfl, ?_⟩
      repeat' first | exact Below.refl _ _ | refine Below.setCell ?_ (by simp <;> omega) _ | refine Below.alloc ?_ (by simp <;> omega) _
    · skip
      cases g2
      · skip
        go_enter Tryd.func15, Tryd.ntmps15
        go_wp2_with fail
        refine (P0.out _).mono ?_
        rintro e w1 ⟨rfl, hw⟩
        subst hw
        go_wp2_with fail
        refine (P1.out _).mono ?_
        rintro e w2 ⟨rfl, hw⟩
        subst hw
        go_wp2_with fail
        refine (P2.out _).mono ?_
        rintro e w3 ⟨rfl, hw⟩
        subst hw
        go_wp2_with fail
        go_ret
        refine ⟨rfl, ?_⟩
        repeat' first | exact Below.refl _ _ | refine Below.setCell ?_ (by simp <;> omega) _ | refine Below.alloc ?_ (by simp <;> omega) _
      · skip
        cases g3
        · skip
          go_enter Tryd.func15, Tryd.ntmps15
          go_wp2_with fail
          refine (P0.out _).mono ?_
          rintro e w1 ⟨rfl, hw⟩
          subst hw
          go_wp2_with fail
          refine (P1.out _).mono ?_
          rintro e w2 ⟨rfl, hw⟩
          subst hw
          go_wp2_with fail
          refine (P2.out _).mono ?_
          rintro e w3 ⟨rfl, hw⟩
          subst hw
          go_wp2_with fail
          refine (P3.out _).mono ?_
          rintro e w4 ⟨rfl, hw⟩
          subst hw
          go_wp2_with fail
          go_ret
          refine ⟨rfl, ?_⟩
          repeat' first | exact Below.refl _ _ | refine Below.setCell ?_ (by simp <;> omega) _ | refine Below.alloc ?_ (by simp <;> omega) _
        · skip
          cases g4
          · skip
            go_enter Tryd.func15, Tryd.ntmps15
            go_wp2_with fail
            refine (P0.out _).mono ?_
            rintro e w1 ⟨rfl, hw⟩
            subst hw
            go_wp2_with fail
            refine (P1.out _).mono ?_
            rintro e w2 ⟨rfl, hw⟩
            subst hw
            go_wp2_with fail
            refine (P2.out _).mono ?_
            rintro e w3 ⟨rfl, hw⟩
            subst hw
            go_wp2_with fail
            refine (P3.out _).mono ?_
            rintro e w4 ⟨rfl, hw⟩
            subst hw
            go_wp2_with fail
            refine (P4.out _).mono ?_
            rintro e w5 ⟨rfl, hw⟩
            subst hw
            go_wp2_with fail
            go_ret
            refine ⟨rfl, ?_⟩
            repeat' first | exact Below.refl _ _ | refine Below.setCell ?_ (by simp <;> omega) _ | refine Below.alloc ?_ (by simp <;> omega) _
          · skip
            have e := HB.out rfl rfl rfl rfl
            have e1 := e.1
            have e2 := e.2.1
            have e3 := e.2.2
            clear e HB
            by_cases hz : f = a + b + c + d
            · have e4 : (f == a + b + c + d) = true := by simpa using hz
              rw [decide_eq_true hz]
              clear hz
              go_enter Tryd.func15, Tryd.ntmps15
              go_wp2_with fail
              refine (P0.out _).mono ?_
              rintro e w1 ⟨rfl, hw⟩
              subst hw
              go_wp2_with fail
              refine (P1.out _).mono ?_
              rintro e w2 ⟨rfl, hw⟩
              subst hw
              go_wp2_with fail
              refine (P2.out _).mono ?_
              rintro e w3 ⟨rfl, hw⟩
              subst hw
              go_wp2_with fail
              refine (P3.out _).mono ?_
              rintro e w4 ⟨rfl, hw⟩
              subst hw
              go_wp2_with fail
              refine (P4.out _).mono ?_
              rintro e w5 ⟨rfl, hw⟩
              subst hw
              go_wp2_with fail
              go_ret
              refine ⟨rfl, ?_⟩
              repeat' first | exact Below.refl _ _ | refine Below.setCell ?_ (by simp <;> omega) _ | refine Below.alloc ?_ (by simp <;> omega) _
            · have e4 : (f == a + b + c + d) = false := by simpa using hz
              rw [decide_eq_false hz]
              clear hz
              go_enter Tryd.func15, Tryd.ntmps15
              go_wp2_with fail
              refine (P0.out _).mono ?_
              rintro e w1 ⟨rfl, hw⟩
              subst hw
              go_wp2_with fail
              refine (P1.out _).mono ?_
              rintro e w2 ⟨rfl, hw⟩
              subst hw
              go_wp2_with fail
              refine (P2.out _).mono ?_
              rintro e w3 ⟨rfl, hw⟩
              subst hw
              go_wp2_with fail
              refine (P3.out _).mono ?_
              rintro e w4 ⟨rfl, hw⟩
              subst hw
              go_wp2_with fail
              refine (P4.out _).mono ?_
              rintro e w5 ⟨rfl, hw⟩
              subst hw
              go_wp2_with fail
              go_ret
              refine ⟨rfl, ?_⟩
              repeat' first | exact Below.refl _ _ | refine Below.setCell ?_ (by simp <;> omega) _ | refine Below.alloc ?_ (by simp <;> omega) _

theorem ok_all (a b c d f : Int) : okB a b c d f = (([a, b, c, d, f].all fun x => inn x 0 1000000000000) && (decide (b ≤ 400) && (decide (c ≤ 1500) && decide (f = a + b + c + d)))) := by
  unfold okB inn
  rw [Bool.eq_iff_iff]
  simp only [List.all_cons, List.all_nil, Bool.and_true, Bool.and_eq_true, decide_eq_true_eq]
  omega

set_option maxHeartbeats 1000000 in
theorem sok_any (a b c d f : Int) (w : World) : Calls Tryd.prog 13 #[sv a b c d f] w fun e w' => e = .returned (.bool (okB a b c d f)) ∧ Below w.heap.size w w' := by
  rw [ok_all]
  obtain ⟨X, hX⟩ : ∃ X, [a, b, c, d, f] = X := ⟨_, rfl⟩
  obtain ⟨W, hW⟩ : ∃ W, W = (w.alloc (Obj.cells #[.int .i64 a, .int .i64 b, .int .i64 c, .int .i64 d, .int .i64 f] 25)).alloc (Obj.cells #[.int .i64 a, .int .i64 b, .int .i64 c, .int .i64 d, .int .i64 f] 2) := ⟨_, rfl⟩
  have HW : Hid (W = (w.alloc (Obj.cells #[.int .i64 a, .int .i64 b, .int .i64 c, .int .i64 d, .int .i64 f] 25)).alloc (Obj.cells #[.int .i64 a, .int .i64 b, .int .i64 c, .int .i64 d, .int .i64 f] 2)) := hW
  have BW : Hid (Below w.heap.size w W) := (by show Below _ _ _; rw [hW]; exact ((Below.refl _ _).alloc (Nat.le_refl _) _).alloc (by simp) _)
  have z0 : W.cell? ⟨w.heap.size + 1, 0, none⟩ = some (.int .i64 a) := by rw [hW]; simp [go_sem]
  have z1 : W.cell? ⟨w.heap.size + 1, 1, none⟩ = some (.int .i64 b) := by rw [hW]; simp [go_sem]
  have z2 : W.cell? ⟨w.heap.size + 1, 2, none⟩ = some (.int .i64 c) := by rw [hW]; simp [go_sem]
  have z3 : W.cell? ⟨w.heap.size + 1, 3, none⟩ = some (.int .i64 d) := by rw [hW]; simp [go_sem]
  have z4 : W.cell? ⟨w.heap.size + 1, 4, none⟩ = some (.int .i64 f) := by rw [hW]; simp [go_sem]
  have HC : Hid (∀ i, i < 5 → W.cell? ⟨w.heap.size + 1, i, none⟩ = some (.int .i64 (X.getD i 0))) := fun i hi => by
    subst hX
    match i, hi with
    | 0, _ => exact z0
    | 1, _ => exact z1
    | 2, _ => exact z2
    | 3, _ => exact z3
    | 4, _ => exact z4
  have s0 : W.cell? ⟨w.heap.size, 0, none⟩ = some (.int .i64 a) := by rw [hW]; simp [go_sem]
  have s1 : W.cell? ⟨w.heap.size, 1, none⟩ = some (.int .i64 b) := by rw [hW]; simp [go_sem]
  have s2 : W.cell? ⟨w.heap.size, 2, none⟩ = some (.int .i64 c) := by rw [hW]; simp [go_sem]
  have s3 : W.cell? ⟨w.heap.size, 3, none⟩ = some (.int .i64 d) := by rw [hW]; simp [go_sem]
  have s4 : W.cell? ⟨w.heap.size, 4, none⟩ = some (.int .i64 f) := by rw [hW]; simp [go_sem]
  have SC : Hid (W.cell? ⟨w.heap.size, 0, none⟩ = some (.int .i64 a) ∧ W.cell? ⟨w.heap.size, 1, none⟩ = some (.int .i64 b) ∧ W.cell? ⟨w.heap.size, 2, none⟩ = some (.int .i64 c) ∧ W.cell? ⟨w.heap.size, 3, none⟩ = some (.int .i64 d) ∧ W.cell? ⟨w.heap.size, 4, none⟩ = some (.int .i64 f)) := ⟨s0, s1, s2, s3, s4⟩
  have HX : Hid ([a, b, c, d, f] = X) := hX
  clear z0 z1 z2 z3 z4 s0 s1 s2 s3 s4 hW
  rw [hX]
  clear hX
  obtain ⟨bo, hbo⟩ : ∃ bo, X.all (fun x => inn x 0 1000000000000) = bo := ⟨_, rfl⟩
  rw [hbo]
  have HO : Hid (X.all (fun x => inn x 0 1000000000000) = bo) := hbo
  have LX : Hid (X.length = 5) := (by show _ = _; rw [← HX.out]; rfl)
  clear hbo
  obtain ⟨ro, hro⟩ : ∃ ro, (bo && (decide (b ≤ 400) && (decide (c ≤ 1500) && decide (f = a + b + c + d)))) = ro := ⟨_, rfl⟩
  rw [hro]
  have RO : Hid ((bo && (decide (b ≤ 400) && (decide (c ≤ 1500) && decide (f = a + b + c + d)))) = ro) := hro
  clear hro
  go_enter Tryd.func13, Tryd.ntmps13
  go_wp2_with fail
  rw [← HW.out]
  go_loop [17] (fun i => ∃ k : Nat, k ≤ 5 ∧ i = .int .i64 k ∧ Hid (∀ j, j < k → inn (X.getD j 0) 0 1000000000000 = true)) (fun i => 5 - (intOf i).toNat)
  case atStart => exact ⟨0, by omega, rfl, fun j hj => by omega⟩
  case round =>
    obtain ⟨k, hk, rfl, OK⟩ := hrel
    by_cases hlt : k < 5
    · have q : W.cell? ⟨w.heap.size + 1, k, none⟩ = some (.int .i64 (X.getD k 0)) := HC.out k hlt
      have i1 : (0 : Int) ≤ (k : Int) := by omega
      have i2 : (k : Int) < 5 := by omega
      have C3 : Hid (∀ w, Calls Tryd.prog 14 #[.int .i64 (X.getD k 0), .int .i64 0, .int .i64 1000000000000] w fun e w' => e = .returned (.bool (inn (X.getD k 0) 0 1000000000000)) ∧ w' = w) := fun w => s_in _ _ _ w
      cases hz : inn (X.getD k 0) 0 1000000000000
      · have HF : Hid (bo = false) := (by
          show _ = _
          rw [← HO.out, List.all_eq_false]
          exact ⟨X.getD k 0, by have := LX.out; simp [List.getD_eq_getElem?_getD, this, hlt], by rw [hz]; simp⟩)
        rw [hz] at C3
        clear hz
        generalize X.getD k 0 = z at *
        go_wp2_with fail
        refine (C3.out _).mono ?_
        rintro e w3 ⟨rfl, hw⟩
        have hw' := hw.symm
        subst hw'
        go_wp2_with fail
        go_ret
        exact ⟨by rw [← RO.out, HF.out]; rfl, BW.out⟩
      · have OK2 : Hid (∀ j, j < k + 1 → inn (X.getD j 0) 0 1000000000000 = true) := fun j hj => by
          by_cases e : j = k
          · rw [e]; exact hz
          · exact OK.out j (by omega)
        rw [hz] at C3
        clear hz
        generalize X.getD k 0 = z at *
        go_wp2_with fail
        refine (C3.out _).mono ?_
        rintro e w3 ⟨rfl, hw⟩
        have hw' := hw.symm
        subst hw'
        go_wp2_with fail
        go_round
        case rel => exact ⟨k + 1, by omega, by go_num, OK2⟩
        case measure => simp [intOf]; omega
    · have hk5 : k = 5 := by omega
      subst hk5
      have o0 := (inn_iff _ _ _).mp (by have := OK.out 0 (by omega); rw [← HX.out] at this; exact this : inn a 0 1000000000000 = true)
      have o1 := (inn_iff _ _ _).mp (by have := OK.out 1 (by omega); rw [← HX.out] at this; exact this : inn b 0 1000000000000 = true)
      have o2 := (inn_iff _ _ _).mp (by have := OK.out 2 (by omega); rw [← HX.out] at this; exact this : inn c 0 1000000000000 = true)
      have o3 := (inn_iff _ _ _).mp (by have := OK.out 3 (by omega); rw [← HX.out] at this; exact this : inn d 0 1000000000000 = true)
      have HT : Hid (bo = true) := (by
        show _ = _
        rw [← HO.out, List.all_eq_true]
        intro y hy
        obtain ⟨j, hj, rfl⟩ := List.getElem_of_mem hy
        have := OK.out j (by have := LX.out; omega)
        simpa [List.getD_eq_getElem?_getD, hj] using this)
      obtain ⟨s0, s1, s2, s3, s4⟩ := SC.out
      have e1 : IntKind.i64.wrap (a + b + c + d) = a + b + c + d := IntWalk.i64_in _ (by omega)
      have e2 : IntKind.i64.wrap (a + b + c) = a + b + c := IntWalk.i64_in _ (by omega)
      have e3 : IntKind.i64.wrap (a + b) = a + b := IntWalk.i64_in _ (by omega)
      clear o0 o1 o2 o3
      by_cases g1 : b ≤ 400
      · by_cases g2 : c ≤ 1500
        · by_cases hz : f = a + b + c + d
          · have e4 : (f == a + b + c + d) = true := by simpa using hz
            have E : Hid (ro = true) := (by show _ = _; rw [← RO.out, HT.out]; simp [g1, g2, hz])
            clear hz
            go_wp2_with fail
            go_ret
            exact ⟨by rw [E.out]; rfl, BW.out⟩
          · have e4 : (f == a + b + c + d) = false := by simpa using hz
            have E : Hid (ro = false) := (by show _ = _; rw [← RO.out, HT.out]; simp [hz])
            clear hz
            go_wp2_with fail
            go_ret
            exact ⟨by rw [E.out]; rfl, BW.out⟩
        · have E : Hid (ro = false) := (by show _ = _; rw [← RO.out, HT.out]; simp [g2])
          go_wp2_with fail
          go_ret
          exact ⟨by rw [E.out]; rfl, BW.out⟩
      · have E : Hid (ro = false) := (by show _ = _; rw [← RO.out, HT.out]; simp [g1])
        go_wp2_with fail
        go_ret
        exact ⟨by rw [E.out]; rfl, BW.out⟩

end Go.Proofs.YtgimdhdioigmiaaDoor.So