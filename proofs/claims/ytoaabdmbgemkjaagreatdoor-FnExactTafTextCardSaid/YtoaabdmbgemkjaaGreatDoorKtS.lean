/- A sky's text: the model. -/
import Derived.Test.YtoaabdmbgemkjaaGreatDoorKtW
namespace Go.Proofs.YtoaabdmbgemkjaaGreatDoor.Kt
open Go.ChangeShapes Go.WideShapes Go.ChangeAt Go.RowKit
open Go.Proofs.YtoaabdmbgemkjaaGreatDoor.Dec Go.Proofs.YtoaabdmbgemkjaaGreatDoor.Sk Go.Proofs.YtoaabdmbgemkjaaGreatDoor.Al

set_option maxHeartbeats 400000 in
theorem ssky_no (d p v : Int) (W C : ByteArray) (b : Int) (w : World) (h : ok d p v W C b = false) : Calls Tryz.prog 14 #[sk d p v W C b] w fun e w' => e = .returned (.string ⟨#[]⟩) ∧ Below w.heap.size w w' := by
  have OK : Hid (∀ w, Calls Tryz.prog 38 #[sk d p v W C b] w fun e w' => e = .returned (.bool false) ∧ Below w.heap.size w w') := fun w => by have := sok_any d p v W C b w; rwa [h] at this
  have B0 : Hid (Below w.heap.size w (w.alloc (Obj.cells #[.int .i64 d, .int .i64 p, .int .i64 v, .string W, .string C, .int .i64 b] 32))) := (Below.refl _ _).alloc (Nat.le_refl _) _
  go_enter Tryz.func14, Tryz.ntmps14
  go_wp2_with fail
  refine (OK.out _).mono ?_
  rintro e w1 ⟨rfl, b1⟩
  have B1 : Hid (Below w.heap.size w w1) := B0.out.trans (b1.mono B0.out.size)
  clear b1
  go_wp2_with fail
  go_ret
  exact ⟨rfl, B1.out⟩
theorem ilt {n : Int} (h : 0 ≤ n) : ((n.toNat : Nat) : Int) = n := by omega
set_option maxRecDepth 20000 in
set_option maxHeartbeats 2000000 in
theorem ssky_yes (d p v : Int) (W C : ByteArray) (b : Int) (w : World) (h : ok d p v W C b = true) : Calls Tryz.prog 14 #[sk d p v W C b] w fun e w' => e = .returned (.string ⟨(txt d p v W C b).toArray⟩) ∧ Below w.heap.size w w' := by
  obtain ⟨i0, hi, hz0, hz1, hz2⟩ := info_parts Tryz.info9
  have F := fit_of h
  have PL := prt_le F
  have OK : Hid (∀ w, Calls Tryz.prog 38 #[sk d p v W C b] w fun e w' => e = .returned (.bool true) ∧ Below w.heap.size w w') := fun w => by have := sok_any d p v W C b w; rwa [h] at this
  have PD : Hid (∀ (n : Int) (k : Nat) (w : World), 0 ≤ n → n ≤ 9999 → k ≤ 4 → Calls Tryz.prog 37 #[.int .i64 n, .int .i64 (k : Int)] w fun e w' => e = .returned (.string ⟨(pad k (dg n)).toArray⟩) ∧ Below w.heap.size w w') := fun n k w h0 h1 h2 => by
    have := pad_any n.toNat k w (by omega) (by omega)
    rwa [ilt h0] at this
  have WD : Hid (∀ (L : List (List UInt8)) (x : Value) (w : World) (B : Nat), L.length ≤ 4 → (∀ y ∈ L, y.length ≤ 20) → w.ownsRow B 9 1 x L.length (strs L) → Calls Tryz.prog 15 #[x] w fun e w' => e = .returned (.string ⟨(Lib.join L [32]).toArray⟩) ∧ w' = w) := fun L x w B h1 h2 h3 => by
    obtain ⟨a, cap, rfl, _, hc⟩ := row_read h3
    exact words_any L a cap w h1 h2 hc
  obtain ⟨w0, hw0⟩ : ∃ w0, w0 = w.alloc (Obj.cells #[.int .i64 d, .int .i64 p, .int .i64 v, .string W, .string C, .int .i64 b] 32) := ⟨_, rfl⟩
  have HW0 : Hid (w0 = w.alloc (Obj.cells #[.int .i64 d, .int .i64 p, .int .i64 v, .string W, .string C, .int .i64 b] 32)) := hw0
  have B0 : Hid (Below w.heap.size w w0) := (by show Below _ _ _; rw [hw0]; exact (Below.refl _ _).alloc (Nat.le_refl _) _)
  have X0 : Hid (Bx w.heap.size d p v W C b w0 ∧ w.heap.size < w0.heap.size) := (by show _ ∧ _; rw [hw0]; unfold Bx; simp [go_sem])
  have hd := F.d
  have hp := F.p
  have hv := F.v
  have hW := F.W
  have hC := F.C
  have hb := F.b
  clear F h hw0
  obtain ⟨k0, k1, k2, k3, k4, k5⟩ := X0.out.1
  go_enter Tryz.func14, Tryz.ntmps14
  go_wp2_with fail
  rw [← HW0.out]
  clear k0 k1 k2 k3 k4 k5
  refine (OK.out w0).mono ?_
  rintro e w1 ⟨rfl, b1⟩
  obtain ⟨w2, hw2⟩ : ∃ w2, w2 = w1.alloc (Obj.cells #[] 9) := ⟨_, rfl⟩
  have HW2 : Hid (w2 = w1.alloc (Obj.cells #[] 9)) := hw2
  have S0 : Hid (SX w d p v W C b [] (.slice (some ⟨w1.heap.size, 0, none⟩) 0 0) w2) := (by
    show SX _ _ _ _ _ _ _ _ _ _
    have hb2 : Below w0.heap.size w0 w2 := by rw [hw2]; exact b1.alloc b1.size _
    have z0 := X0.out.2
    have z1 := b1.size
    refine ⟨?_, X0.out.1.block (hb2.block _ z0), Nat.lt_of_lt_of_le z0 hb2.size, B0.out.trans (hb2.mono B0.out.size)⟩
    rw [hw2]
    have := World.ownsRow_lit (e := 9) w1 #[] 0 (size := 1) (base := w.heap.size + 1) (by omega) (Nat.zero_le _) rfl
    simpa [strs] using this)
  obtain ⟨k0, k1, k2, k3, k4, k5⟩ := S0.out.bx
  clear hw2 b1 X0 B0 HW0 OK
  have K0 := k0
  rw [HW2.out] at k0
  go_upto_if 10 with fail
  rw [← HW2.out]
  generalize (Value.slice (some ⟨w1.heap.size, 0, none⟩) 0 0) = x0 at *
  clear k0 k1 k2 k3 k4 k5 K0 HW2
  obtain ⟨L0, hL0⟩ : ∃ L0 : List (List UInt8), L0 = [] := ⟨_, rfl⟩
  have EL0 : Hid (L0 = []) := hL0
  rw [← hL0] at S0
  have l0 : L0.length ≤ 4 := by rw [hL0]; simp
  clear hL0
  go_cut [3] (fun x wx => Hid (SX w d p v W C b (L0 ++ pw d p) x wx))
  case first =>
    have Q2 : Hid (∀ w, Calls Tryz.prog 37 #[.int .i64 p, .int .i64 2] w fun e w' => e = .returned (.string ⟨(pad 2 (dg p)).toArray⟩) ∧ Below w.heap.size w w') := fun w => PD.out p 2 w (by omega) (by omega) (by omega)
    have P2 : (pad 2 (dg p)).length = 2 := pad_le 2 _ (.inl ⟨rfl, by omega⟩)
    by_cases h9 : d = 99
    · obtain ⟨X, hX⟩ : ∃ X, X = [86, 82, 66] ++ pad 2 (dg p) ++ [75, 84] := ⟨_, rfl⟩
      have FX : Hid (pw d p = [X]) := (by show _ = _; rw [hX]; unfold pw; rw [if_pos h9])
      obtain ⟨A, hA⟩ : ∃ A, A = [86, 82, 66] ++ pad 2 (dg p) := ⟨_, rfl⟩
      have e1 : (⟨#[86, 82, 66]⟩ : ByteArray) ++ ⟨(pad 2 (dg p)).toArray⟩ = ⟨A.toArray⟩ := by rw [hA]; exact cat [86, 82, 66] _
      have e2 : (⟨A.toArray⟩ : ByteArray) ++ ⟨#[75, 84]⟩ = ⟨X.toArray⟩ := by rw [hX, hA]; exact cat _ [75, 84]
      have lA : A.length = 5 := by rw [hA]; simp [P2]
      generalize pad 2 (dg p) = Y2 at *
      have u0 : ¬ 9223372036854775807 < 3 + Y2.length := by omega
      have u1 : ¬ 9223372036854775807 < A.length + 2 := by omega
      have d9 : (d == 99) = true := by simp [h9]
      have LA : A.length ≤ 5 := by omega
      have LY : Y2.length ≤ 2 := by omega
      clear hX hA lA P2 h9
      obtain ⟨k0, k1, k2, k3, k4, k5⟩ := S0.out.bx
      go_wp2_with fail
      refine (Q2.out _).mono ?_
      rintro e q1 ⟨rfl, bb⟩
      have S1 : Hid (SX w d p v W C b L0 x0 q1) := S0.out.on bb
      clear bb k0 k1 k2 k3 k4 k5
      go_wp2_with (at_builtin; refine wpList_append_own _ rfl _ _ 45 rfl (w.heap.size + 1) 9 i0 (.string ⟨#[]⟩) 1 16 Tryz.underlying45 hi hz0 hz1 hz2 rfl (by decide) _ _ _ rfl (S1.out.lit _).row ⟨q1.heap.size, 0, none⟩ 1 1 [.string ⟨X.toArray⟩] rfl rfl (one_lit q1 X) (by intro u hu; simp at hu; subst hu; rfl) (by unfold maxLen; omega) (by omega) (by have := (S1.out.lit (Obj.cells #[.string ⟨X.toArray⟩] 9)).lt; omega) ?_)
      intro v' w4 hown' hgrow _
      have SN : Hid (SX w d p v W C b (L0 ++ [X]) v' w4) := (S1.out.lit _).app hown' hgrow
      clear hown' hgrow
      go_wp2_with fail
      go_meet
      exact (by show SX _ _ _ _ _ _ _ _ _ _; rw [FX.out]; exact SN.out)
    · by_cases h0 : 0 ≤ d
      · have Q1 : Hid (∀ w, Calls Tryz.prog 37 #[.int .i64 (d * 10), .int .i64 3] w fun e w' => e = .returned (.string ⟨(pad 3 (dg (d * 10))).toArray⟩) ∧ Below w.heap.size w w') := fun w => PD.out (d * 10) 3 w (by omega) (by omega) (by omega)
        have P3 : (pad 3 (dg (d * 10))).length = 3 := pad_le 3 _ (.inr (.inl ⟨rfl, by omega⟩))
        have jm : IntKind.i64.wrap (d * 10) = d * 10 := IntWalk.i64_in _ (by omega)
        obtain ⟨X, hX⟩ : ∃ X, X = pad 3 (dg (d * 10)) ++ pad 2 (dg p) ++ [75, 84] := ⟨_, rfl⟩
        have FX : Hid (pw d p = [X]) := (by show _ = _; rw [hX]; unfold pw; rw [if_neg h9, if_pos h0])
        obtain ⟨A, hA⟩ : ∃ A, A = pad 3 (dg (d * 10)) ++ pad 2 (dg p) := ⟨_, rfl⟩
        have e1 : (⟨(pad 3 (dg (d * 10))).toArray⟩ : ByteArray) ++ ⟨(pad 2 (dg p)).toArray⟩ = ⟨A.toArray⟩ := by rw [hA]; exact cat _ _
        have e2 : (⟨A.toArray⟩ : ByteArray) ++ ⟨#[75, 84]⟩ = ⟨X.toArray⟩ := by rw [hX, hA]; exact cat _ [75, 84]
        have lA : A.length = 5 := by rw [hA]; simp [P2, P3]
        generalize pad 2 (dg p) = Y2 at *
        generalize pad 3 (dg (d * 10)) = Y3 at *
        have u0 : ¬ 9223372036854775807 < Y3.length + Y2.length := by omega
        have u1 : ¬ 9223372036854775807 < A.length + 2 := by omega
        have d9 : (d == 99) = false := by simp [h9]
        have d0 : decide (0 ≤ d) = true := by simp [h0]
        clear hX hA lA P2 P3 h9
        obtain ⟨k0, k1, k2, k3, k4, k5⟩ := S0.out.bx
        go_wp2_with fail
        clear k0 k1 k2 k3 k4 k5
        refine wp_region_held_drew (S := Bx w.heap.size d p v W C b) (by kernel_rfl) S0.out.drew.bx (fun hHeld => ?_)
        have T0 : Hid (SX w d p v W C b L0 x0 w2.drew) := S0.out.drew
        generalize w2.drew = q0 at hHeld T0 ⊢
        refine wpAnyH_take (i := 0) (oi := { dst := some 22, op := Go.Op.move (Go.Operand.tmp 3), type := 45, pos := "l21_aviation.go:57", after := #[], guard := none }) (v := ?_) rfl (by kernel_rfl) (by kernel_rfl) (by kernel_rfl) (fun _ _ _ h => h) (Or.inl ⟨by rfl, ?_⟩) (by assumption) ?_
        rotate_left 1
        · (intro w hSw; obtain ⟨k0, k1, k2, k3, k4, k5⟩ := hSw; go_simp); all_goals (with_reducible rfl)
        try simp only [Act.put, List.setIfInBounds_toArray, List.set_cons_zero, List.set_cons_succ]
        refine wpAnyH_take (i := 1) (oi := { dst := some 23, op := Go.Op.fieldAddr 32 (Go.Operand.tmp 1) 0, type := 0, pos := "l21_aviation.go:57", after := #[], guard := none }) (v := ?_) rfl (by kernel_rfl) (by kernel_rfl) (by kernel_rfl) (fun _ _ _ h => h) (Or.inl ⟨by rfl, ?_⟩) (by assumption) ?_
        rotate_left 1
        · (intro w hSw; obtain ⟨k0, k1, k2, k3, k4, k5⟩ := hSw; go_simp); all_goals (with_reducible rfl)
        try simp only [Act.put, List.setIfInBounds_toArray, List.set_cons_zero, List.set_cons_succ]
        refine wpAnyH_take (i := 2) (oi := { dst := some 24, op := Go.Op.load 2 (Go.Operand.tmp 23), type := 2, pos := "l21_aviation.go:57", after := #[{ on := 1, ground := Go.Ground.data }], guard := none }) (v := ?_) rfl (by kernel_rfl) (by kernel_rfl) (by kernel_rfl) (fun _ _ _ h => h) (Or.inl ⟨by rfl, ?_⟩) (by assumption) ?_
        rotate_left 1
        · (intro w hSw; obtain ⟨k0, k1, k2, k3, k4, k5⟩ := hSw; go_simp); all_goals (with_reducible rfl)
        try simp only [Act.put, List.setIfInBounds_toArray, List.set_cons_zero, List.set_cons_succ]
        refine wpAnyH_take (i := 3) (oi := { dst := some 25, op := Go.Op.binOp Go.BinOp.mul 2 (Go.Operand.tmp 24) (Go.Operand.const (Go.Value.int Go.IntKind.i64 10)) 2, type := 2, pos := "l21_aviation.go:57", after := #[{ on := 2, ground := Go.Ground.data }], guard := none }) (v := ?_) rfl (by kernel_rfl) (by kernel_rfl) (by kernel_rfl) (fun _ _ _ h => h) (Or.inl ⟨by rfl, ?_⟩) (by assumption) ?_
        rotate_left 1
        · (intro w hSw; obtain ⟨k0, k1, k2, k3, k4, k5⟩ := hSw; go_simp); all_goals (with_reducible rfl)
        try simp only [Act.put, List.setIfInBounds_toArray, List.set_cons_zero, List.set_cons_succ]
        refine wpAnyH_take (i := 5) (oi := { dst := some 27, op := Go.Op.fieldAddr 32 (Go.Operand.tmp 1) 1, type := 0, pos := "l21_aviation.go:57", after := #[], guard := none }) (v := ?_) rfl (by kernel_rfl) (by kernel_rfl) (by kernel_rfl) (fun _ _ _ h => h) (Or.inl ⟨by rfl, ?_⟩) (by assumption) ?_
        rotate_left 1
        · (intro w hSw; obtain ⟨k0, k1, k2, k3, k4, k5⟩ := hSw; go_simp); all_goals (with_reducible rfl)
        try simp only [Act.put, List.setIfInBounds_toArray, List.set_cons_zero, List.set_cons_succ]
        refine wpAnyH_take (i := 6) (oi := { dst := some 28, op := Go.Op.load 2 (Go.Operand.tmp 27), type := 2, pos := "l21_aviation.go:57", after := #[{ on := 5, ground := Go.Ground.data }], guard := none }) (v := ?_) rfl (by kernel_rfl) (by kernel_rfl) (by kernel_rfl) (fun _ _ _ h => h) (Or.inl ⟨by rfl, ?_⟩) (by assumption) ?_
        rotate_left 1
        · (intro w hSw; obtain ⟨k0, k1, k2, k3, k4, k5⟩ := hSw; go_simp); all_goals (with_reducible rfl)
        try simp only [Act.put, List.setIfInBounds_toArray, List.set_cons_zero, List.set_cons_succ]
        refine wpAnyH_ready (rs := [4]) (by kernel_rfl) (by simp) ?_
        refine AllReadyH.cons (o := { dst := some 26, op := Go.Op.call { callee := Go.Callee.value (Go.Operand.func 37), args := #[Go.Operand.tmp 25, Go.Operand.const (Go.Value.int Go.IntKind.i64 3)], argTypes := #[2, 3] }, type := 9, pos := "l21_aviation.go:57", after := #[{ on := 3, ground := Go.Ground.data }], guard := none }) rfl (fun K hK => ?_) AllReadyH.nil
        go_simp
        refine (Q1.out _).mono ?_
        rintro e q1 ⟨rfl, bb⟩
        have T1 : Hid (SX w d p v W C b L0 x0 q1) := T0.out.on bb
        clear bb
        refine hK.out _ _ T1.out.bx (fun hHeld2 => ?_)
        clear hK K hHeld
        have hHeld := hHeld2
        clear hHeld2
        refine wpAnyH_ready (rs := [7]) (by kernel_rfl) (by simp) ?_
        refine AllReadyH.cons (o := { dst := some 29, op := Go.Op.call { callee := Go.Callee.value (Go.Operand.func 37), args := #[Go.Operand.tmp 28, Go.Operand.const (Go.Value.int Go.IntKind.i64 2)], argTypes := #[2, 3] }, type := 9, pos := "l21_aviation.go:57", after := #[{ on := 6, ground := Go.Ground.data }, { on := 4, ground := Go.Ground.chain }], guard := none }) rfl (fun K hK => ?_) AllReadyH.nil
        go_simp
        refine (Q2.out _).mono ?_
        rintro e q2 ⟨rfl, bb⟩
        have T2 : Hid (SX w d p v W C b L0 x0 q2) := T1.out.on bb
        clear bb
        refine hK.out _ _ T2.out.bx (fun hHeld2 => ?_)
        clear hK K hHeld
        have hHeld := hHeld2
        clear hHeld2
        refine wpAnyH_take (i := 8) (oi := { dst := some 30, op := Go.Op.binOp Go.BinOp.add 9 (Go.Operand.tmp 26) (Go.Operand.tmp 29) 9, type := 9, pos := "l21_aviation.go:57", after := #[{ on := 4, ground := Go.Ground.data }, { on := 7, ground := Go.Ground.data }], guard := none }) (v := ?_) rfl (by kernel_rfl) (by kernel_rfl) (by kernel_rfl) (fun _ _ _ h => h) (Or.inl ⟨by rfl, ?_⟩) (by assumption) ?_
        rotate_left 1
        · (intro w hSw; obtain ⟨k0, k1, k2, k3, k4, k5⟩ := hSw; go_simp); all_goals (with_reducible rfl)
        try simp only [Act.put, List.setIfInBounds_toArray, List.set_cons_zero, List.set_cons_succ]
        refine wpAnyH_take (i := 9) (oi := { dst := some 31, op := Go.Op.binOp Go.BinOp.add 9 (Go.Operand.tmp 30) (Go.Operand.const (Go.Value.string { data := #[75, 84] })) 9, type := 9, pos := "l21_aviation.go:57", after := #[{ on := 8, ground := Go.Ground.data }], guard := none }) (v := ?_) rfl (by kernel_rfl) (by kernel_rfl) (by kernel_rfl) (fun _ _ _ h => h) (Or.inl ⟨by rfl, ?_⟩) (by assumption) ?_
        rotate_left 1
        · (intro w hSw; obtain ⟨k0, k1, k2, k3, k4, k5⟩ := hSw; go_simp); all_goals (with_reducible rfl)
        try simp only [Act.put, List.setIfInBounds_toArray, List.set_cons_zero, List.set_cons_succ]
        refine wpAnyH_ready (rs := [10]) (by kernel_rfl) (by simp) ?_
        refine AllReadyH.cons (o := { dst := some 32, op := Go.Op.buildSlice 45 1 #[(0, Go.Operand.tmp 31)], type := 45, pos := "l21_aviation.go:57", after := #[{ on := 9, ground := Go.Ground.data }], guard := none }) rfl (fun K hK => ?_) AllReadyH.nil
        go_simp
        have T3 : Hid (SX w d p v W C b L0 x0 (q2.alloc (Obj.cells #[.string ⟨X.toArray⟩] 9))) := T2.out.lit _
        refine hK.out _ _ T3.out.bx (fun hHeld2 => ?_)
        clear hK K hHeld
        have hHeld := hHeld2
        clear hHeld2
        refine wpAnyH_ready (rs := [11]) (by kernel_rfl) (by simp) ?_
        refine AllReadyH.cons (o := { dst := some 33, op := Go.Op.call { callee := Go.Callee.builtin Go.Builtin.append, args := #[Go.Operand.tmp 22, Go.Operand.tmp 32], argTypes := #[45, 45] }, type := 45, pos := "l21_aviation.go:57", after := #[{ on := 0, ground := Go.Ground.data }, { on := 10, ground := Go.Ground.data }, { on := 7, ground := Go.Ground.chain }], guard := none }) rfl (fun K hK => ?_) AllReadyH.nil
        refine step_append_lies _ (by rfl) _ _ 45 (by rfl) (w.heap.size + 1) 9 i0 (.string ⟨#[]⟩) 1 16 Tryz.underlying45 hi hz0 hz1 hz2 rfl (by decide) _ _ _ (by rfl) T3.out.row ⟨q2.heap.size, 0, none⟩ 1 1 [.string ⟨X.toArray⟩] (by rfl) rfl (one_lit q2 X) (by intro u hu; simp at hu; subst hu; rfl) (by decide) (by unfold maxLen; omega) (by omega) (by have := T3.out.lt; omega) _ rfl ?_
        intro g2 cap3 w5 hown hgrow hat hlt5
        have T4 : Hid (SX w d p v W C b (L0 ++ [X]) (.slice (some ⟨g2, 0, none⟩) (L0.length + 1) cap3) w5) := T3.out.app hown hgrow
        clear hown hgrow hat hlt5
        refine hK.out _ _ T4.out.bx (fun hHeld2 => ?_)
        clear hK K hHeld
        have hHeld := hHeld2
        clear hHeld2
        refine wpAnyH_take (i := 12) (oi := { dst := some 3, op := Go.Op.assign (Go.Operand.tmp 33), type := 45, pos := "l21_aviation.go:57", after := #[{ on := 11, ground := Go.Ground.data }, { on := 11, ground := Go.Ground.chain }, { on := 0, ground := Go.Ground.phase }, { on := 1, ground := Go.Ground.phase }, { on := 2, ground := Go.Ground.phase }, { on := 3, ground := Go.Ground.phase }, { on := 4, ground := Go.Ground.phase }, { on := 5, ground := Go.Ground.phase }, { on := 6, ground := Go.Ground.phase }, { on := 7, ground := Go.Ground.phase }, { on := 8, ground := Go.Ground.phase }, { on := 9, ground := Go.Ground.phase }, { on := 10, ground := Go.Ground.phase }, { on := 11, ground := Go.Ground.phase }], guard := none }) (v := ?_) rfl (by kernel_rfl) (by kernel_rfl) (by kernel_rfl) (fun _ _ _ h => h) (Or.inl ⟨by rfl, ?_⟩) (by assumption) ?_
        rotate_left 1
        · (intro w hSw; obtain ⟨k0, k1, k2, k3, k4, k5⟩ := hSw; go_simp); all_goals (with_reducible rfl)
        try simp only [Act.put, List.setIfInBounds_toArray, List.set_cons_zero, List.set_cons_succ]
        refine wpAnyH_done (by kernel_rfl) ?_ _
        go_wp2_with fail
        go_meet
        exact (by show SX _ _ _ _ _ _ _ _ _ _; rw [FX.out]; exact T4.out)
      · have FX : Hid (L0 ++ pw d p = L0) := (by show _ = _; unfold pw; rw [if_neg h9, if_neg h0]; simp)
        have d9 : (d == 99) = false := by simp [h9]
        have d0 : decide (0 ≤ d) = false := by simpa using h0
        clear h9
        obtain ⟨k0, k1, k2, k3, k4, k5⟩ := S0.out.bx
        go_wp2_with fail
        go_meet
        exact (by show SX _ _ _ _ _ _ _ _ _ _; rw [FX.out]; exact S0.out)
  case rest =>
    obtain ⟨y1, hq⟩ : ∃ q : World, q = wc := ⟨_, rfl⟩
    subst hq
    obtain ⟨x1, hq⟩ : ∃ q : Value, q = u3 := ⟨_, rfl⟩
    subst hq
    obtain ⟨L1, hL1⟩ : ∃ L : List (List UInt8), L = L0 ++ pw d p := ⟨_, rfl⟩
    have EL1 : Hid (L1 = L0 ++ pw d p) := hL1
    rw [← hL1] at hcut
    have S1 : Hid (SX w d p v W C b L1 x1 y1) := hcut
    have l1 : L1.length ≤ 4 := (by
      have e := PL.1
      unfold prt at e
      rw [EL1.out]
      simp only [List.length_append] at e ⊢
      have z : L0.length = 0 := by rw [EL0.out]; rfl
      omega)
    clear hcut hL1 S0
    obtain ⟨k0, k1, k2, k3, k4, k5⟩ := S1.out.bx
    go_upto_if 36 with fail
    clear k0 k1 k2 k3 k4 k5
    go_cut [3] (fun x wx => Hid (SX w d p v W C b (L1 ++ pv v) x wx))
    case first =>
      by_cases h0 : 0 ≤ v
      · have Q2 : Hid (∀ w, Calls Tryz.prog 37 #[.int .i64 v, .int .i64 4] w fun e w' => e = .returned (.string ⟨(pad 4 (dg v)).toArray⟩) ∧ Below w.heap.size w w') := fun w => PD.out v 4 w (by omega) (by omega) (by omega)
        obtain ⟨X, hX⟩ : ∃ X, X = pad 4 (dg v) := ⟨_, rfl⟩
        have FX : Hid (pv v = [X]) := (by show _ = _; rw [hX]; unfold pv; rw [if_pos h0])
        rw [← hX] at Q2
        have d0 : decide (0 ≤ v) = true := by simp [h0]
        clear hX
        obtain ⟨k0, k1, k2, k3, k4, k5⟩ := S1.out.bx
        go_wp2_with fail
        refine (Q2.out _).mono ?_
        rintro e q1 ⟨rfl, bb⟩
        have S1b : Hid (SX w d p v W C b L1 x1 q1) := S1.out.on bb
        clear bb k0 k1 k2 k3 k4 k5
        go_wp2_with (at_builtin; refine wpList_append_own _ rfl _ _ 45 rfl (w.heap.size + 1) 9 i0 (.string ⟨#[]⟩) 1 16 Tryz.underlying45 hi hz0 hz1 hz2 rfl (by decide) _ _ _ rfl (S1b.out.lit _).row ⟨q1.heap.size, 0, none⟩ 1 1 [.string ⟨X.toArray⟩] rfl rfl (one_lit q1 X) (by intro u hu; simp at hu; subst hu; rfl) (by unfold maxLen; omega) (by omega) (by have := (S1b.out.lit (Obj.cells #[.string ⟨X.toArray⟩] 9)).lt; omega) ?_)
        intro v' w4 hown' hgrow _
        have SN : Hid (SX w d p v W C b (L1 ++ [X]) v' w4) := (S1b.out.lit _).app hown' hgrow
        clear hown' hgrow
        go_wp2_with fail
        go_meet
        exact (by show SX _ _ _ _ _ _ _ _ _ _; rw [FX.out]; exact SN.out)
      · have FX : Hid (L1 ++ pv v = L1) := (by show _ = _; unfold pv; rw [if_neg h0]; simp)
        have d0 : decide (0 ≤ v) = false := by simpa using h0
        obtain ⟨k0, k1, k2, k3, k4, k5⟩ := S1.out.bx
        go_wp2_with fail
        go_meet
        exact (by show SX _ _ _ _ _ _ _ _ _ _; rw [FX.out]; exact S1.out)
    case rest =>
      obtain ⟨y2, hq⟩ : ∃ q : World, q = wc := ⟨_, rfl⟩
      subst hq
      obtain ⟨x2, hq⟩ : ∃ q : Value, q = u3 := ⟨_, rfl⟩
      subst hq
      obtain ⟨L2, hL2⟩ : ∃ L : List (List UInt8), L = L1 ++ pv v := ⟨_, rfl⟩
      have EL2 : Hid (L2 = L1 ++ pv v) := hL2
      rw [← hL2] at hcut
      have S2 : Hid (SX w d p v W C b L2 x2 y2) := hcut
      have l2 : L2.length ≤ 4 := (by
        have e := PL.1
        unfold prt at e
        rw [EL2.out, EL1.out]
        simp only [List.length_append] at e ⊢
        have z : L0.length = 0 := by rw [EL0.out]; rfl
        omega)
      clear hcut hL2 S1
      obtain ⟨k0, k1, k2, k3, k4, k5⟩ := S2.out.bx
      go_upto_if 45 with fail
      clear k0 k1 k2 k3 k4 k5
      go_cut [3] (fun x wx => Hid (SX w d p v W C b (L2 ++ pW W) x wx))
      case first =>
        by_cases h0 : W.toList = []
        · have FX : Hid (L2 ++ pW W = L2) := (by show _ = _; unfold pW; rw [if_pos h0]; simp)
          have e1 : (W.toList == []) = true := by simp [h0]
          have e2 : W.toList.isEmpty = true := by simp [h0]
          have e3 : (W.toList != []) = false := by simp [h0]
          clear h0
          rw [e2]
          obtain ⟨k0, k1, k2, k3, k4, k5⟩ := S2.out.bx
          go_wp2_with fail
          go_meet
          exact (by show SX _ _ _ _ _ _ _ _ _ _; rw [FX.out]; exact S2.out)
        · have FX : Hid (pW W = [W.data.toList]) := (by show _ = _; unfold pW; rw [if_neg h0])
          have e1 : (W.toList == []) = false := by simpa using h0
          have e2 : W.toList.isEmpty = false := by simpa using h0
          have e3 : (W.toList != []) = true := by simpa using h0
          rw [e2]
          obtain ⟨k0, k1, k2, k3, k4, k5⟩ := S2.out.bx
          go_wp2_with (at_builtin; refine wpList_append_own _ rfl _ _ 45 rfl (w.heap.size + 1) 9 i0 (.string ⟨#[]⟩) 1 16 Tryz.underlying45 hi hz0 hz1 hz2 rfl (by decide) _ _ _ rfl (S2.out.lit _).row ⟨y2.heap.size, 0, none⟩ 1 1 [.string W] rfl rfl (one_litB y2 W) (by intro u hu; simp at hu; subst hu; rfl) (by unfold maxLen; omega) (by omega) (by have := (S2.out.lit (Obj.cells #[.string W] 9)).lt; omega) ?_)
          intro v' w4 hown' hgrow _
          have SN : Hid (SX w d p v W C b (L2 ++ [W.data.toList]) v' w4) := (S2.out.lit _).app (l := W.data.toList) (by rw [back]; exact hown') hgrow
          clear hown' hgrow
          go_wp2_with fail
          go_meet
          exact (by show SX _ _ _ _ _ _ _ _ _ _; rw [FX.out]; exact SN.out)
      case rest =>
        obtain ⟨y3, hq⟩ : ∃ q : World, q = wc := ⟨_, rfl⟩
        subst hq
        obtain ⟨x3, hq⟩ : ∃ q : Value, q = u3 := ⟨_, rfl⟩
        subst hq
        obtain ⟨L3, hL3⟩ : ∃ L : List (List UInt8), L = L2 ++ pW W := ⟨_, rfl⟩
        have EL3 : Hid (L3 = L2 ++ pW W) := hL3
        rw [← hL3] at hcut
        have S3 : Hid (SX w d p v W C b L3 x3 y3) := hcut
        have l3 : L3.length ≤ 4 := (by
          have e := PL.1
          unfold prt at e
          rw [EL3.out, EL2.out, EL1.out]
          simp only [List.length_append] at e ⊢
          have z : L0.length = 0 := by rw [EL0.out]; rfl
          omega)
        clear hcut hL3 S2
        obtain ⟨k0, k1, k2, k3, k4, k5⟩ := S3.out.bx
        go_upto_if 53 with fail
        clear k0 k1 k2 k3 k4 k5
        go_cut [3] (fun x wx => Hid (SX w d p v W C b (L3 ++ pc C b) x wx))
        case first =>
          by_cases h9 : C.toList = [83, 75, 67]
          · have FX : Hid (pc C b = [C.data.toList]) := (by show _ = _; unfold pc; rw [if_pos h9])
            have e1 : (C.toList == [83, 75, 67]) = true := by simp [h9]
            clear h9
            rw [e1]
            obtain ⟨k0, k1, k2, k3, k4, k5⟩ := S3.out.bx
            go_wp2_with (at_builtin; refine wpList_append_own _ rfl _ _ 45 rfl (w.heap.size + 1) 9 i0 (.string ⟨#[]⟩) 1 16 Tryz.underlying45 hi hz0 hz1 hz2 rfl (by decide) _ _ _ rfl (S3.out.lit _).row ⟨y3.heap.size, 0, none⟩ 1 1 [.string C] rfl rfl (one_litB y3 C) (by intro u hu; simp at hu; subst hu; rfl) (by unfold maxLen; omega) (by omega) (by have := (S3.out.lit (Obj.cells #[.string C] 9)).lt; omega) ?_)
            intro v' w4 hown' hgrow _
            have SN : Hid (SX w d p v W C b (L3 ++ [C.data.toList]) v' w4) := (S3.out.lit _).app (l := C.data.toList) (by rw [back]; exact hown') hgrow
            clear hown' hgrow
            go_wp2_with fail
            go_meet
            exact (by show SX _ _ _ _ _ _ _ _ _ _; rw [FX.out]; exact SN.out)
          · have e1 : (C.toList == [83, 75, 67]) = false := by simpa using h9
            rw [e1]
            by_cases h0 : C.toList = []
            · have FX : Hid (L3 ++ pc C b = L3) := (by show _ = _; unfold pc; rw [if_neg h9, if_pos h0]; simp)
              have e4 : (C.toList == []) = true := by simp [h0]
              have e2 : C.toList.isEmpty = true := by simp [h0]
              have e3 : (C.toList != []) = false := by simp [h0]
              clear h0 h9
              obtain ⟨k0, k1, k2, k3, k4, k5⟩ := S3.out.bx
              go_wp2_with fail
              go_meet
              exact (by show SX _ _ _ _ _ _ _ _ _ _; rw [FX.out]; exact S3.out)
            · have Q2 : Hid (∀ w, Calls Tryz.prog 37 #[.int .i64 b, .int .i64 3] w fun e w' => e = .returned (.string ⟨(pad 3 (dg b)).toArray⟩) ∧ Below w.heap.size w w') := fun w => PD.out b 3 w (by omega) (by omega) (by omega)
              have P3 : (pad 3 (dg b)).length = 3 := pad_le 3 _ (.inr (.inl ⟨rfl, by omega⟩))
              obtain ⟨X, hX⟩ : ∃ X, X = C.data.toList ++ pad 3 (dg b) := ⟨_, rfl⟩
              have FX : Hid (pc C b = [X]) := (by show _ = _; rw [hX]; unfold pc; rw [if_neg h9, if_neg h0])
              have f1 : C ++ (⟨(pad 3 (dg b)).toArray⟩ : ByteArray) = ⟨X.toArray⟩ := by rw [hX]; have := cat C.data.toList (pad 3 (dg b)); rw [back] at this; exact this
              have cs : C.size ≤ 3 := by rw [tl] at hC; simpa [← ByteArray.size_data] using hC
              generalize pad 3 (dg b) = Y3 at *
              have u0 : ¬ 9223372036854775807 < C.size + Y3.length := by omega
              have e4 : (C.toList == []) = false := by simpa using h0
              have e2 : C.toList.isEmpty = false := by simpa using h0
              have e3 : (C.toList != []) = true := by simpa using h0
              clear hX P3
              obtain ⟨k0, k1, k2, k3, k4, k5⟩ := S3.out.bx
              go_wp2_with fail
              clear k0 k1 k2 k3 k4 k5
              refine wp_region_held_drew (S := Bx w.heap.size d p v W C b) (by kernel_rfl) S3.out.drew.bx (fun hHeld => ?_)
              have T0 : Hid (SX w d p v W C b L3 x3 y3.drew) := S3.out.drew
              generalize y3.drew = q0 at hHeld T0 ⊢
              refine wpAnyH_take (i := 0) (oi := { dst := some 62, op := Go.Op.move (Go.Operand.tmp 3), type := 45, pos := "l21_aviation.go:68", after := #[], guard := none }) (v := ?_) rfl (by kernel_rfl) (by kernel_rfl) (by kernel_rfl) (fun _ _ _ h => h) (Or.inl ⟨by rfl, ?_⟩) (by assumption) ?_
              rotate_left 1
              · (intro w hSw; obtain ⟨k0, k1, k2, k3, k4, k5⟩ := hSw; go_simp); all_goals (with_reducible rfl)
              try simp only [Act.put, List.setIfInBounds_toArray, List.set_cons_zero, List.set_cons_succ]
              refine wpAnyH_take (i := 1) (oi := { dst := some 63, op := Go.Op.fieldAddr 32 (Go.Operand.tmp 1) 4, type := 0, pos := "l21_aviation.go:68", after := #[], guard := none }) (v := ?_) rfl (by kernel_rfl) (by kernel_rfl) (by kernel_rfl) (fun _ _ _ h => h) (Or.inl ⟨by rfl, ?_⟩) (by assumption) ?_
              rotate_left 1
              · (intro w hSw; obtain ⟨k0, k1, k2, k3, k4, k5⟩ := hSw; go_simp); all_goals (with_reducible rfl)
              try simp only [Act.put, List.setIfInBounds_toArray, List.set_cons_zero, List.set_cons_succ]
              refine wpAnyH_take (i := 2) (oi := { dst := some 64, op := Go.Op.load 9 (Go.Operand.tmp 63), type := 9, pos := "l21_aviation.go:68", after := #[{ on := 1, ground := Go.Ground.data }], guard := none }) (v := ?_) rfl (by kernel_rfl) (by kernel_rfl) (by kernel_rfl) (fun _ _ _ h => h) (Or.inl ⟨by rfl, ?_⟩) (by assumption) ?_
              rotate_left 1
              · (intro w hSw; obtain ⟨k0, k1, k2, k3, k4, k5⟩ := hSw; go_simp); all_goals (with_reducible rfl)
              try simp only [Act.put, List.setIfInBounds_toArray, List.set_cons_zero, List.set_cons_succ]
              refine wpAnyH_take (i := 3) (oi := { dst := some 65, op := Go.Op.fieldAddr 32 (Go.Operand.tmp 1) 5, type := 0, pos := "l21_aviation.go:68", after := #[], guard := none }) (v := ?_) rfl (by kernel_rfl) (by kernel_rfl) (by kernel_rfl) (fun _ _ _ h => h) (Or.inl ⟨by rfl, ?_⟩) (by assumption) ?_
              rotate_left 1
              · (intro w hSw; obtain ⟨k0, k1, k2, k3, k4, k5⟩ := hSw; go_simp); all_goals (with_reducible rfl)
              try simp only [Act.put, List.setIfInBounds_toArray, List.set_cons_zero, List.set_cons_succ]
              refine wpAnyH_take (i := 4) (oi := { dst := some 66, op := Go.Op.load 2 (Go.Operand.tmp 65), type := 2, pos := "l21_aviation.go:68", after := #[{ on := 3, ground := Go.Ground.data }], guard := none }) (v := ?_) rfl (by kernel_rfl) (by kernel_rfl) (by kernel_rfl) (fun _ _ _ h => h) (Or.inl ⟨by rfl, ?_⟩) (by assumption) ?_
              rotate_left 1
              · (intro w hSw; obtain ⟨k0, k1, k2, k3, k4, k5⟩ := hSw; go_simp); all_goals (with_reducible rfl)
              try simp only [Act.put, List.setIfInBounds_toArray, List.set_cons_zero, List.set_cons_succ]
              refine wpAnyH_ready (rs := [5]) (by kernel_rfl) (by simp) ?_
              refine AllReadyH.cons (o := { dst := some 67, op := Go.Op.call { callee := Go.Callee.value (Go.Operand.func 37), args := #[Go.Operand.tmp 66, Go.Operand.const (Go.Value.int Go.IntKind.i64 3)], argTypes := #[2, 3] }, type := 9, pos := "l21_aviation.go:68", after := #[{ on := 4, ground := Go.Ground.data }], guard := none }) rfl (fun K hK => ?_) AllReadyH.nil
              go_simp
              refine (Q2.out _).mono ?_
              rintro e q1 ⟨rfl, bb⟩
              have T1 : Hid (SX w d p v W C b L3 x3 q1) := T0.out.on bb
              clear bb
              refine hK.out _ _ T1.out.bx (fun hHeld2 => ?_)
              clear hK K hHeld
              have hHeld := hHeld2
              clear hHeld2
              refine wpAnyH_take (i := 6) (oi := { dst := some 68, op := Go.Op.binOp Go.BinOp.add 9 (Go.Operand.tmp 64) (Go.Operand.tmp 67) 9, type := 9, pos := "l21_aviation.go:68", after := #[{ on := 2, ground := Go.Ground.data }, { on := 5, ground := Go.Ground.data }], guard := none }) (v := ?_) rfl (by kernel_rfl) (by kernel_rfl) (by kernel_rfl) (fun _ _ _ h => h) (Or.inl ⟨by rfl, ?_⟩) (by assumption) ?_
              rotate_left 1
              · (intro w hSw; obtain ⟨k0, k1, k2, k3, k4, k5⟩ := hSw; go_simp); all_goals (with_reducible rfl)
              try simp only [Act.put, List.setIfInBounds_toArray, List.set_cons_zero, List.set_cons_succ]
              refine wpAnyH_ready (rs := [7]) (by kernel_rfl) (by simp) ?_
              refine AllReadyH.cons (o := { dst := some 69, op := Go.Op.buildSlice 45 1 #[(0, Go.Operand.tmp 68)], type := 45, pos := "l21_aviation.go:68", after := #[{ on := 6, ground := Go.Ground.data }], guard := none }) rfl (fun K hK => ?_) AllReadyH.nil
              go_simp
              have T2 : Hid (SX w d p v W C b L3 x3 (q1.alloc (Obj.cells #[.string ⟨X.toArray⟩] 9))) := T1.out.lit _
              refine hK.out _ _ T2.out.bx (fun hHeld2 => ?_)
              clear hK K hHeld
              have hHeld := hHeld2
              clear hHeld2
              refine wpAnyH_ready (rs := [8]) (by kernel_rfl) (by simp) ?_
              refine AllReadyH.cons (o := { dst := some 70, op := Go.Op.call { callee := Go.Callee.builtin Go.Builtin.append, args := #[Go.Operand.tmp 62, Go.Operand.tmp 69], argTypes := #[45, 45] }, type := 45, pos := "l21_aviation.go:68", after := #[{ on := 0, ground := Go.Ground.data }, { on := 7, ground := Go.Ground.data }, { on := 5, ground := Go.Ground.chain }], guard := none }) rfl (fun K hK => ?_) AllReadyH.nil
              refine step_append_lies _ (by rfl) _ _ 45 (by rfl) (w.heap.size + 1) 9 i0 (.string ⟨#[]⟩) 1 16 Tryz.underlying45 hi hz0 hz1 hz2 rfl (by decide) _ _ _ (by rfl) T2.out.row ⟨q1.heap.size, 0, none⟩ 1 1 [.string ⟨X.toArray⟩] (by rfl) rfl (one_lit q1 X) (by intro u hu; simp at hu; subst hu; rfl) (by decide) (by unfold maxLen; omega) (by omega) (by have := T2.out.lt; omega) _ rfl ?_
              intro g2 cap3 w5 hown hgrow hat hlt5
              have T3 : Hid (SX w d p v W C b (L3 ++ [X]) (.slice (some ⟨g2, 0, none⟩) (L3.length + 1) cap3) w5) := T2.out.app hown hgrow
              clear hown hgrow hat hlt5
              refine hK.out _ _ T3.out.bx (fun hHeld2 => ?_)
              clear hK K hHeld
              have hHeld := hHeld2
              clear hHeld2
              refine wpAnyH_take (i := 9) (oi := { dst := some 3, op := Go.Op.assign (Go.Operand.tmp 70), type := 45, pos := "l21_aviation.go:68", after := #[{ on := 8, ground := Go.Ground.data }, { on := 8, ground := Go.Ground.chain }, { on := 0, ground := Go.Ground.phase }, { on := 1, ground := Go.Ground.phase }, { on := 2, ground := Go.Ground.phase }, { on := 3, ground := Go.Ground.phase }, { on := 4, ground := Go.Ground.phase }, { on := 5, ground := Go.Ground.phase }, { on := 6, ground := Go.Ground.phase }, { on := 7, ground := Go.Ground.phase }, { on := 8, ground := Go.Ground.phase }], guard := none }) (v := ?_) rfl (by kernel_rfl) (by kernel_rfl) (by kernel_rfl) (fun _ _ _ h => h) (Or.inl ⟨by rfl, ?_⟩) (by assumption) ?_
              rotate_left 1
              · (intro w hSw; obtain ⟨k0, k1, k2, k3, k4, k5⟩ := hSw; go_simp); all_goals (with_reducible rfl)
              try simp only [Act.put, List.setIfInBounds_toArray, List.set_cons_zero, List.set_cons_succ]
              refine wpAnyH_done (by kernel_rfl) ?_ _
              go_wp2_with fail
              go_meet
              exact (by show SX _ _ _ _ _ _ _ _ _ _; rw [FX.out]; exact T3.out)
        case rest =>
          obtain ⟨y4, hq⟩ : ∃ q : World, q = wc := ⟨_, rfl⟩
          subst hq
          obtain ⟨x4, hq⟩ : ∃ q : Value, q = u3 := ⟨_, rfl⟩
          subst hq
          obtain ⟨L4, hL4⟩ : ∃ L : List (List UInt8), L = L3 ++ pc C b := ⟨_, rfl⟩
          have EL4 : Hid (L4 = L3 ++ pc C b) := hL4
          rw [← hL4] at hcut
          have S4 : Hid (SX w d p v W C b L4 x4 y4) := hcut
          have l4 : L4.length ≤ 4 := (by
            have e := PL.1
            unfold prt at e
            rw [EL4.out, EL3.out, EL2.out, EL1.out]
            simp only [List.length_append] at e ⊢
            have z : L0.length = 0 := by rw [EL0.out]; rfl
            omega)
          clear hcut hL4 S3
          have EP : Hid (L4 = prt d p v W C b) := (by show _ = _; rw [EL4.out, EL3.out, EL2.out, EL1.out, EL0.out]; rfl)
          go_wp2_with fail
          refine (WD.out L4 x4 y4 _ l4 (by rw [EP.out]; exact PL.2) S4.out.row).mono ?_
          rintro e q1 ⟨rfl, hq1⟩
          have hq2 := hq1.symm
          subst hq2
          go_wp2_with fail
          go_ret
          exact ⟨by rw [EP.out]; rfl, S4.out.bel⟩
end Go.Proofs.YtoaabdmbgemkjaaGreatDoor.Kt
