/- A sky's text: the program. -/
import Derived.Test.YtoaabdmbgemkjaaGreatDoorKtW
namespace Go.Proofs.YtoaabdmbgemkjaaGreatDoor.Kt
open Go.ChangeShapes Go.WideShapes Go.ChangeAt Go.RowKit
open Go.Proofs.YtoaabdmbgemkjaaGreatDoor.Dec Go.Proofs.YtoaabdmbgemkjaaGreatDoor.Sk Go.Proofs.YtoaabdmbgemkjaaGreatDoor.Al

theorem ilt' {n : Int} (h : 0 ≤ n) : ((n.toNat : Nat) : Int) = n := by omega
theorem pd_any {T : World → Prop} (X : LibC T) (n : Int) (k : Nat) (w : World) (hT : T w) (h0 : 0 ≤ n) (h1 : n ≤ 9999) (hk : k ≤ 4) : Calls Tryz.prog 46 #[.int .i64 n, .int .i64 (k : Int)] w fun e w' => e = .returned (.string ⟨(pad k (dg n)).toArray⟩) ∧ Below w.heap.size w w' := by
  have := padded_any X n.toNat k w hT (by omega) hk
  rwa [ilt' h0] at this
def dt (d : Int) : List UInt8 := if d = 99 then [86, 82, 66] else pad 3 (dg (d * 10))
set_option maxHeartbeats 400000 in
theorem dir_any {T : World → Prop} (X : LibC T) (d : Int) (w : World) (hT : T w) (hd : (0 ≤ d ∧ d ≤ 36) ∨ d = 99) : Calls Tryz.prog 48 #[.int .i64 d] w fun e w' => e = .returned (.string ⟨(dt d).toArray⟩) ∧ Below w.heap.size w w' := by
  unfold dt
  by_cases h9 : d = 99
  · rw [if_pos h9]
    subst h9
    go_enter Tryz.func48, Tryz.ntmps48
    go_wp2_with fail
    go_ret
    exact ⟨rfl, Below.refl _ _⟩
  · rw [if_neg h9]
    have Q : Hid (Calls Tryz.prog 46 #[.int .i64 (10 * d), .int .i64 3] w fun e w' => e = .returned (.string ⟨(pad 3 (dg (d * 10))).toArray⟩) ∧ Below w.heap.size w w') := (by
      have := pd_any X (d * 10) 3 w hT (by omega) (by omega) (by omega)
      rwa [Int.mul_comm d 10] at this ⊢)
    have d9 : (d == 99) = false := by simp [h9]
    have jm : IntKind.i64.wrap (10 * d) = 10 * d := IntWalk.i64_in _ (by omega)
    clear h9
    generalize pad 3 (dg (d * 10)) = Y at *
    go_enter Tryz.func48, Tryz.ntmps48
    go_wp2_with fail
    refine Q.out.mono ?_
    rintro e w1 ⟨rfl, bb⟩
    have HB : Hid (Below w.heap.size w w1) := bb
    clear bb
    go_wp2_with fail
    go_ret
    exact ⟨rfl, HB.out⟩
def ct (C : ByteArray) (b : Int) : List UInt8 := if C.toList = [83, 75, 67] then C.data.toList else C.data.toList ++ pad 3 (dg b)
set_option maxHeartbeats 400000 in
theorem clouds_any {T : World → Prop} (X : LibC T) (C : ByteArray) (b : Int) (w : World) (hT : T w) (hb : 0 ≤ b ∧ b ≤ 200) (hC : C.toList.length ≤ 3) : Calls Tryz.prog 49 #[.string C, .int .i64 b] w fun e w' => e = .returned (.string ⟨(ct C b).toArray⟩) ∧ Below w.heap.size w w' := by
  unfold ct
  by_cases h9 : C.toList = [83, 75, 67]
  · rw [if_pos h9]
    have e1 : (C.toList == [83, 75, 67]) = true := by simp [h9]
    clear h9
    go_enter Tryz.func49, Tryz.ntmps49
    go_wp2_with fail
    go_ret
    exact ⟨congrArg (fun x => Ending.returned (.string x)) (back C).symm, Below.refl _ _⟩
  · rw [if_neg h9]
    have Q : Hid (Calls Tryz.prog 46 #[.int .i64 b, .int .i64 3] w fun e w' => e = .returned (.string ⟨(pad 3 (dg b)).toArray⟩) ∧ Below w.heap.size w w') := pd_any X b 3 w hT (by omega) (by omega) (by omega)
    have e1 : (C.toList == [83, 75, 67]) = false := by simpa using h9
    have P3 : (pad 3 (dg b)).length = 3 := pad_le 3 _ (.inr (.inl ⟨rfl, by omega⟩))
    have J : Hid (∀ w1 : World, Calls Tryz.prog 20 #[.slice (some ⟨w1.heap.size, 0, none⟩) 2 2] (w1.alloc (Obj.cells #[.string C, .string ⟨(pad 3 (dg b)).toArray⟩] 9)) fun e w' => e = .returned (.string ⟨(C.data.toList ++ pad 3 (dg b)).toArray⟩) ∧ Below w1.heap.size w1 w') := fun w1 => (joined_any X w1.heap.size 2 2 [C.data.toList, pad 3 (dg b)] _ rfl (by
        intro j x hx
        match j, hx with
        | 0, hx => simp at hx; subst hx; rw [back]; simp [go_sem]
        | 1, hx => simp at hx; subst hx; simp [go_sem]) (by simp) (by simp) (by simp) (by rw [tl] at hC; simp only [List.flatten_cons, List.flatten_nil, List.length_append, List.length_nil]; omega)).mono (by
      rintro e w' ⟨rfl, hb⟩
      exact ⟨by simp, ((Below.refl _ w1).alloc (Nat.le_refl _) _).trans (hb.mono (by simp))⟩)
    clear h9 P3
    generalize pad 3 (dg b) = Y at *
    go_enter Tryz.func49, Tryz.ntmps49
    go_wp2_with fail
    refine Q.out.mono ?_
    rintro e w1 ⟨rfl, bb⟩
    have HB : Hid (Below w.heap.size w w1) := bb
    clear bb
    go_wp2_with fail
    refine (J.out _).mono ?_
    rintro e w2 ⟨rfl, bb⟩
    have HB2 : Hid (Below w.heap.size w w2) := HB.out.trans (bb.mono HB.out.size)
    clear bb
    go_wp2_with fail
    go_ret
    exact ⟨rfl, HB2.out⟩
set_option maxHeartbeats 400000 in
theorem isky_no (d p v : Int) (W C : ByteArray) (b : Int) (w : World) (h : ok d p v W C b = false) : Calls Tryz.prog 23 #[sk d p v W C b] w fun e w' => e = .returned (.string ⟨#[]⟩) ∧ Below w.heap.size w w' := by
  have OK : Hid (∀ w, Calls Tryz.prog 47 #[sk d p v W C b] w fun e w' => e = .returned (.bool false) ∧ Below w.heap.size w w') := fun w => by have := iok_any d p v W C b w; rwa [h] at this
  have B0 : Hid (Below w.heap.size w (w.alloc (Obj.cells #[.int .i64 d, .int .i64 p, .int .i64 v, .string W, .string C, .int .i64 b] 32))) := (Below.refl _ _).alloc (Nat.le_refl _) _
  go_enter Tryz.func23, Tryz.ntmps23
  go_wp2_with fail
  refine (OK.out _).mono ?_
  rintro e w1 ⟨rfl, b1⟩
  have B1 : Hid (Below w.heap.size w w1) := B0.out.trans (b1.mono B0.out.size)
  clear b1
  go_wp2_with fail
  go_ret
  exact ⟨rfl, B1.out⟩
theorem three (q : World) (a b c : List UInt8) : ∀ (j : Nat) x, [a, b, c][j]? = some x → (q.alloc (Obj.cells #[.string ⟨a.toArray⟩, .string ⟨b.toArray⟩, .string ⟨c.toArray⟩] 9)).cell? ⟨q.heap.size, j, none⟩ = some (.string ⟨x.toArray⟩) := by
  intro j x hx
  match j, hx with
  | 0, hx => simp at hx; subst hx; simp [go_sem]
  | 1, hx => simp at hx; subst hx; simp [go_sem]
  | 2, hx => simp at hx; subst hx; simp [go_sem]
set_option maxRecDepth 20000 in
set_option maxHeartbeats 2000000 in
theorem isky_yes {T : World → Prop} (X : LibC T) (d p v : Int) (W C : ByteArray) (b : Int) (w : World) (hT : T w) (h : ok d p v W C b = true) : Calls Tryz.prog 23 #[sk d p v W C b] w fun e w' => e = .returned (.string ⟨(txt d p v W C b).toArray⟩) ∧ Below w.heap.size w w' := by
  obtain ⟨i0, hi, hz0, hz1, hz2⟩ := info_parts Tryz.info9
  have F := fit_of h
  have PL := prt_le F
  have OK : Hid (∀ w, Calls Tryz.prog 47 #[sk d p v W C b] w fun e w' => e = .returned (.bool true) ∧ Below w.heap.size w w') := fun w => by have := iok_any d p v W C b w; rwa [h] at this
  have PD : Hid (∀ (n : Int) (k : Nat) (u : World), Below w.heap.size w u → 0 ≤ n → n ≤ 9999 → k ≤ 4 → Calls Tryz.prog 46 #[.int .i64 n, .int .i64 (k : Int)] u fun e w' => e = .returned (.string ⟨(pad k (dg n)).toArray⟩) ∧ Below u.heap.size u w') := fun n k u hu h0 h1 h2 => pd_any X n k u (X.keep w u hT hu) h0 h1 h2
  have DI : Hid (∀ (u : World), Below w.heap.size w u → d ≠ -1 → Calls Tryz.prog 48 #[.int .i64 d] u fun e w' => e = .returned (.string ⟨(dt d).toArray⟩) ∧ Below u.heap.size u w') := fun u hu h1 => dir_any X d u (X.keep w u hT hu) (by have := F.d; omega)
  have CL : Hid (∀ (u : World), Below w.heap.size w u → Calls Tryz.prog 49 #[.string C, .int .i64 b] u fun e w' => e = .returned (.string ⟨(ct C b).toArray⟩) ∧ Below u.heap.size u w') := fun u hu => clouds_any X C b u (X.keep w u hT hu) F.b F.C
  have JN : Hid (∀ (u : World) (l1 l2 l3 : List UInt8), l1.length + l2.length + l3.length ≤ 100 → Calls Tryz.prog 20 #[.slice (some ⟨u.heap.size, 0, none⟩) 3 3] (u.alloc (Obj.cells #[.string ⟨l1.toArray⟩, .string ⟨l2.toArray⟩, .string ⟨l3.toArray⟩] 9)) fun e w' => e = .returned (.string ⟨(l1 ++ l2 ++ l3).toArray⟩) ∧ Below (u.alloc (Obj.cells #[.string ⟨l1.toArray⟩, .string ⟨l2.toArray⟩, .string ⟨l3.toArray⟩] 9)).heap.size (u.alloc (Obj.cells #[.string ⟨l1.toArray⟩, .string ⟨l2.toArray⟩, .string ⟨l3.toArray⟩] 9)) w') := fun u l1 l2 l3 hl => (joined_any X u.heap.size 3 3 [l1, l2, l3] _ rfl (three u l1 l2 l3) (by simp) (by simp) (by simp) (by simp; omega)).mono (by
    rintro e w' ⟨rfl, hb⟩
    exact ⟨by simp, hb⟩)
  have WD : Hid (∀ (L : List (List UInt8)) (x : Value) (w : World) (B : Nat), L.length ≤ 4 → (∀ y ∈ L, y.length ≤ 20) → w.ownsRow B 9 1 x L.length (strs L) → Calls Tryz.prog 25 #[x, .string ⟨#[32]⟩] w fun e w' => e = .returned (.string ⟨(Lib.join L [32]).toArray⟩) ∧ Below w.heap.size w w') := fun L x w B h1 h2 h3 => by
    obtain ⟨a, cap, rfl, hcap, hc⟩ := row_read h3
    rcases hc with h0 | ⟨g, rfl, hg, hc⟩
    · have e : L = [] := List.eq_nil_of_length_eq_zero h0
      subst e
      exact (Tryz.strings_Join_none a cap ⟨#[32]⟩ w).mono (by rintro e w' ⟨rfl, rfl⟩; exact ⟨rfl, Below.refl _ _⟩)
    · have em : (List.map (fun x : ByteArray => x.data.toList) (L.map fun x => (⟨x.toArray⟩ : ByteArray))) = L := by
        rw [List.map_map]
        conv => rhs; rw [← List.map_id L]
        exact List.map_congr_left fun x _ => by simp
      have hj := Tryz.strings_Join g 0 cap (L.map fun x => (⟨x.toArray⟩ : ByteArray)) ⟨#[32]⟩ w (by
        intro j x hx
        rw [List.getElem?_map] at hx
        cases hq : L[j]? with
        | none => rw [hq] at hx; cases hx
        | some y =>
          rw [hq] at hx
          cases hx
          obtain ⟨hl, he⟩ := List.getElem?_eq_some_iff.1 hq
          have := hc j hl
          simpa [List.getD_eq_getElem?_getD, hq] using this) hg (by simp; omega) (by simpa using hcap) (by rw [em]; show (Lib.join L [32]).length ≤ _; have := join_len L h2; omega)
      rw [em, List.length_map] at hj
      exact hj
  obtain ⟨w0, hw0⟩ : ∃ w0, w0 = w.alloc (Obj.cells #[.int .i64 d, .int .i64 p, .int .i64 v, .string W, .string C, .int .i64 b] 32) := ⟨_, rfl⟩
  have HW0 : Hid (w0 = w.alloc (Obj.cells #[.int .i64 d, .int .i64 p, .int .i64 v, .string W, .string C, .int .i64 b] 32)) := hw0
  have B0 : Hid (Below w.heap.size w w0) := (by show Below _ _ _; rw [hw0]; exact (Below.refl _ _).alloc (Nat.le_refl _) _)
  have X0 : Hid (Bx w.heap.size d p v W C b w0 ∧ w.heap.size < w0.heap.size) := (by show _ ∧ _; rw [hw0]; unfold Bx; simp [go_sem])
  have hd := F.d
  have hp := F.p
  have hv := F.v
  have hW := F.W
  have hC := F.C
  have hb := F.b
  clear F h hw0 hT X
  obtain ⟨k0, k1, k2, k3, k4, k5⟩ := X0.out.1
  go_enter Tryz.func23, Tryz.ntmps23
  go_wp2_with fail
  rw [← HW0.out]
  clear k0 k1 k2 k3 k4 k5
  refine (OK.out w0).mono ?_
  rintro e w2 ⟨rfl, b1⟩
  have S0 : Hid (SX w d p v W C b [] (.slice none 0 0) w2) := (by
    show SX _ _ _ _ _ _ _ _ _ _
    have z0 := X0.out.2
    exact ⟨World.ownsRow_nil _ _ _ _, X0.out.1.block (b1.block _ z0), Nat.lt_of_lt_of_le z0 b1.size, B0.out.trans (b1.mono B0.out.size)⟩)
  obtain ⟨k0, k1, k2, k3, k4, k5⟩ := S0.out.bx
  clear b1 X0 B0 HW0 OK
  go_upto_if 9 with fail
  generalize (Value.slice none 0 0) = x0 at *
  clear k0 k1 k2 k3 k4 k5
  obtain ⟨L0, hL0⟩ : ∃ L0 : List (List UInt8), L0 = [] := ⟨_, rfl⟩
  have EL0 : Hid (L0 = []) := hL0
  rw [← hL0] at S0
  have l0 : L0.length ≤ 4 := by rw [hL0]; simp
  clear hL0
  go_cut [3] (fun x wx => Hid (SX w d p v W C b (L0 ++ pw d p) x wx))
  case first =>
    by_cases h0 : d = -1
    · have FX : Hid (L0 ++ pw d p = L0) := (by show _ = _; unfold pw; rw [if_neg (by omega), if_neg (by omega)]; simp)
      have d9 : (d != -1) = false := by simp [h0]
      clear h0
      rw [d9]
      go_wp2_with fail
      go_meet
      exact (by show SX _ _ _ _ _ _ _ _ _ _; rw [FX.out]; exact S0.out)
    · have Q1 : Hid (∀ u : World, Below w.heap.size w u → Calls Tryz.prog 48 #[.int .i64 d] u fun e w' => e = .returned (.string ⟨(dt d).toArray⟩) ∧ Below u.heap.size u w') := fun u hu => DI.out u hu h0
      have Q2 : Hid (∀ u : World, Below w.heap.size w u → Calls Tryz.prog 46 #[.int .i64 p, .int .i64 2] u fun e w' => e = .returned (.string ⟨(pad 2 (dg p)).toArray⟩) ∧ Below u.heap.size u w') := fun u hu => PD.out p 2 u hu (by omega) (by omega) (by omega)
      have P2 : (pad 2 (dg p)).length = 2 := pad_le 2 _ (.inl ⟨rfl, by omega⟩)
      have P3 : (dt d).length = 3 := (by unfold dt; split; rfl; exact pad_le 3 _ (.inr (.inl ⟨rfl, by omega⟩)))
      obtain ⟨X, hX⟩ : ∃ X, X = dt d ++ pad 2 (dg p) ++ [75, 84] := ⟨_, rfl⟩
      have FX : Hid (pw d p = [X]) := (by
        show _ = _
        rw [hX]
        unfold pw dt
        by_cases h9 : d = 99
        · rw [if_pos h9, if_pos h9]
        · rw [if_neg h9, if_pos (by omega), if_neg h9])
      have Q3 : Hid (∀ u : World, Calls Tryz.prog 20 #[.slice (some ⟨u.heap.size, 0, none⟩) 3 3] (u.alloc (Obj.cells #[.string ⟨(dt d).toArray⟩, .string ⟨(pad 2 (dg p)).toArray⟩, .string ⟨#[75, 84]⟩] 9)) fun e w' => e = .returned (.string ⟨X.toArray⟩) ∧ Below (u.alloc (Obj.cells #[.string ⟨(dt d).toArray⟩, .string ⟨(pad 2 (dg p)).toArray⟩, .string ⟨#[75, 84]⟩] 9)).heap.size (u.alloc (Obj.cells #[.string ⟨(dt d).toArray⟩, .string ⟨(pad 2 (dg p)).toArray⟩, .string ⟨#[75, 84]⟩] 9)) w') := fun u => by rw [hX]; exact JN.out u _ _ [75, 84] (by simp [P2, P3])
      generalize pad 2 (dg p) = Y2 at *
      generalize dt d = Y3 at *
      have d9 : (d != -1) = true := by simp [h0]
      clear hX P2 P3 h0
      rw [d9]
      go_wp2_with fail
      refine wp_region_held_drew (S := Bx w.heap.size d p v W C b) (by kernel_rfl) S0.out.drew.bx (fun hHeld => ?_)
      have T0 : Hid (SX w d p v W C b L0 x0 w2.drew) := S0.out.drew
      generalize w2.drew = q0 at hHeld T0 ⊢
      refine wpAnyH_take (i := 0) (oi := { dst := some 10, op := Go.Op.move (Go.Operand.tmp 3), type := 45, pos := "l21_aviation.go:106", after := #[], guard := none }) (v := ?_) rfl (by kernel_rfl) (by kernel_rfl) (by kernel_rfl) (fun _ _ _ h => h) (Or.inl ⟨by rfl, ?_⟩) (by assumption) ?_
      rotate_left 1
      · (intro w hSw; obtain ⟨k0, k1, k2, k3, k4, k5⟩ := hSw; go_simp); all_goals (with_reducible rfl)
      try simp only [Act.put, List.setIfInBounds_toArray, List.set_cons_zero, List.set_cons_succ]
      refine wpAnyH_take (i := 1) (oi := { dst := some 11, op := Go.Op.fieldAddr 32 (Go.Operand.tmp 1) 0, type := 0, pos := "l21_aviation.go:106", after := #[], guard := none }) (v := ?_) rfl (by kernel_rfl) (by kernel_rfl) (by kernel_rfl) (fun _ _ _ h => h) (Or.inl ⟨by rfl, ?_⟩) (by assumption) ?_
      rotate_left 1
      · (intro w hSw; obtain ⟨k0, k1, k2, k3, k4, k5⟩ := hSw; go_simp); all_goals (with_reducible rfl)
      try simp only [Act.put, List.setIfInBounds_toArray, List.set_cons_zero, List.set_cons_succ]
      refine wpAnyH_take (i := 2) (oi := { dst := some 12, op := Go.Op.load 2 (Go.Operand.tmp 11), type := 2, pos := "l21_aviation.go:106", after := #[{ on := 1, ground := Go.Ground.data }], guard := none }) (v := ?_) rfl (by kernel_rfl) (by kernel_rfl) (by kernel_rfl) (fun _ _ _ h => h) (Or.inl ⟨by rfl, ?_⟩) (by assumption) ?_
      rotate_left 1
      · (intro w hSw; obtain ⟨k0, k1, k2, k3, k4, k5⟩ := hSw; go_simp); all_goals (with_reducible rfl)
      try simp only [Act.put, List.setIfInBounds_toArray, List.set_cons_zero, List.set_cons_succ]
      refine wpAnyH_take (i := 4) (oi := { dst := some 14, op := Go.Op.fieldAddr 32 (Go.Operand.tmp 1) 1, type := 0, pos := "l21_aviation.go:106", after := #[], guard := none }) (v := ?_) rfl (by kernel_rfl) (by kernel_rfl) (by kernel_rfl) (fun _ _ _ h => h) (Or.inl ⟨by rfl, ?_⟩) (by assumption) ?_
      rotate_left 1
      · (intro w hSw; obtain ⟨k0, k1, k2, k3, k4, k5⟩ := hSw; go_simp); all_goals (with_reducible rfl)
      try simp only [Act.put, List.setIfInBounds_toArray, List.set_cons_zero, List.set_cons_succ]
      refine wpAnyH_take (i := 5) (oi := { dst := some 15, op := Go.Op.load 2 (Go.Operand.tmp 14), type := 2, pos := "l21_aviation.go:106", after := #[{ on := 4, ground := Go.Ground.data }], guard := none }) (v := ?_) rfl (by kernel_rfl) (by kernel_rfl) (by kernel_rfl) (fun _ _ _ h => h) (Or.inl ⟨by rfl, ?_⟩) (by assumption) ?_
      rotate_left 1
      · (intro w hSw; obtain ⟨k0, k1, k2, k3, k4, k5⟩ := hSw; go_simp); all_goals (with_reducible rfl)
      try simp only [Act.put, List.setIfInBounds_toArray, List.set_cons_zero, List.set_cons_succ]
      refine wpAnyH_ready (rs := [3]) (by kernel_rfl) (by simp) ?_
      refine AllReadyH.cons (o := { dst := some 13, op := Go.Op.call { callee := Go.Callee.value (Go.Operand.func 48), args := #[Go.Operand.tmp 12], argTypes := #[2] }, type := 9, pos := "l21_aviation.go:106", after := #[{ on := 2, ground := Go.Ground.data }], guard := none }) rfl (fun K hK => ?_) AllReadyH.nil
      go_simp
      refine (Q1.out _ T0.out.bel).mono ?_
      rintro e q1 ⟨rfl, bb⟩
      have T1 : Hid (SX w d p v W C b L0 x0 q1) := T0.out.on bb
      clear bb
      refine hK.out _ _ T1.out.bx (fun hHeld2 => ?_)
      clear hK K hHeld
      have hHeld := hHeld2
      clear hHeld2
      refine wpAnyH_ready (rs := [6]) (by kernel_rfl) (by simp) ?_
      refine AllReadyH.cons (o := { dst := some 16, op := Go.Op.call { callee := Go.Callee.value (Go.Operand.func 46), args := #[Go.Operand.tmp 15, Go.Operand.const (Go.Value.int Go.IntKind.i64 2)], argTypes := #[2, 2] }, type := 9, pos := "l21_aviation.go:106", after := #[{ on := 5, ground := Go.Ground.data }, { on := 3, ground := Go.Ground.chain }], guard := none }) rfl (fun K hK => ?_) AllReadyH.nil
      go_simp
      refine (Q2.out _ T1.out.bel).mono ?_
      rintro e q2 ⟨rfl, bb⟩
      have T2 : Hid (SX w d p v W C b L0 x0 q2) := T1.out.on bb
      clear bb
      refine hK.out _ _ T2.out.bx (fun hHeld2 => ?_)
      clear hK K hHeld
      have hHeld := hHeld2
      clear hHeld2
      refine wpAnyH_ready (rs := [7]) (by kernel_rfl) (by simp) ?_
      refine AllReadyH.cons (o := { dst := some 17, op := Go.Op.buildSlice 45 3 #[(0, Go.Operand.tmp 13), (1, Go.Operand.tmp 16), (2, Go.Operand.const (Go.Value.string { data := #[75, 84] }))], type := 45, pos := "l21_aviation.go:106", after := #[{ on := 3, ground := Go.Ground.data }, { on := 6, ground := Go.Ground.data }], guard := none }) rfl (fun K hK => ?_) AllReadyH.nil
      go_simp
      have T3 : Hid (SX w d p v W C b L0 x0 (q2.alloc (Obj.cells #[.string ⟨Y3.toArray⟩, .string ⟨Y2.toArray⟩, .string ⟨#[75, 84]⟩] 9))) := T2.out.lit _
      refine hK.out _ _ T3.out.bx (fun hHeld2 => ?_)
      clear hK K hHeld
      have hHeld := hHeld2
      clear hHeld2
      refine wpAnyH_ready (rs := [8]) (by kernel_rfl) (by simp) ?_
      refine AllReadyH.cons (o := { dst := some 18, op := Go.Op.call { callee := Go.Callee.value (Go.Operand.func 20), args := #[Go.Operand.tmp 17], argTypes := #[45] }, type := 9, pos := "l21_aviation.go:106", after := #[{ on := 7, ground := Go.Ground.data }, { on := 6, ground := Go.Ground.chain }], guard := none }) rfl (fun K hK => ?_) AllReadyH.nil
      go_simp
      refine (Q3.out _).mono ?_
      rintro e q3 ⟨rfl, bb⟩
      have T4 : Hid (SX w d p v W C b L0 x0 q3) := T3.out.on bb
      clear bb
      refine hK.out _ _ T4.out.bx (fun hHeld2 => ?_)
      clear hK K hHeld
      have hHeld := hHeld2
      clear hHeld2
      refine wpAnyH_ready (rs := [9]) (by kernel_rfl) (by simp) ?_
      refine AllReadyH.cons (o := { dst := some 19, op := Go.Op.buildSlice 45 1 #[(0, Go.Operand.tmp 18)], type := 45, pos := "l21_aviation.go:106", after := #[{ on := 8, ground := Go.Ground.data }], guard := none }) rfl (fun K hK => ?_) AllReadyH.nil
      go_simp
      have T5 : Hid (SX w d p v W C b L0 x0 (q3.alloc (Obj.cells #[.string ⟨X.toArray⟩] 9))) := T4.out.lit _
      refine hK.out _ _ T5.out.bx (fun hHeld2 => ?_)
      clear hK K hHeld
      have hHeld := hHeld2
      clear hHeld2
      refine wpAnyH_ready (rs := [10]) (by kernel_rfl) (by simp) ?_
      refine AllReadyH.cons (o := { dst := some 20, op := Go.Op.call { callee := Go.Callee.builtin Go.Builtin.append, args := #[Go.Operand.tmp 10, Go.Operand.tmp 19], argTypes := #[45, 45] }, type := 45, pos := "l21_aviation.go:106", after := #[{ on := 0, ground := Go.Ground.data }, { on := 9, ground := Go.Ground.data }, { on := 8, ground := Go.Ground.chain }], guard := none }) rfl (fun K hK => ?_) AllReadyH.nil
      refine step_append_lies _ (by rfl) _ _ 45 (by rfl) (w.heap.size + 1) 9 i0 (.string ⟨#[]⟩) 1 16 Tryz.underlying45 hi hz0 hz1 hz2 rfl (by decide) _ _ _ (by rfl) T5.out.row ⟨q3.heap.size, 0, none⟩ 1 1 [.string ⟨X.toArray⟩] (by rfl) rfl (one_lit q3 X) (by intro u hu; simp at hu; subst hu; rfl) (by decide) (by unfold maxLen; omega) (by omega) (by have := T5.out.lt; omega) _ rfl ?_
      intro g2 cap3 w5 hown hgrow hat hlt5
      have T6 : Hid (SX w d p v W C b (L0 ++ [X]) (.slice (some ⟨g2, 0, none⟩) (L0.length + 1) cap3) w5) := T5.out.app hown hgrow
      clear hown hgrow hat hlt5
      refine hK.out _ _ T6.out.bx (fun hHeld2 => ?_)
      clear hK K hHeld
      have hHeld := hHeld2
      clear hHeld2
      refine wpAnyH_take (i := 11) (oi := { dst := some 3, op := Go.Op.assign (Go.Operand.tmp 20), type := 45, pos := "l21_aviation.go:106", after := #[{ on := 10, ground := Go.Ground.data }, { on := 10, ground := Go.Ground.chain }, { on := 0, ground := Go.Ground.phase }, { on := 1, ground := Go.Ground.phase }, { on := 2, ground := Go.Ground.phase }, { on := 3, ground := Go.Ground.phase }, { on := 4, ground := Go.Ground.phase }, { on := 5, ground := Go.Ground.phase }, { on := 6, ground := Go.Ground.phase }, { on := 7, ground := Go.Ground.phase }, { on := 8, ground := Go.Ground.phase }, { on := 9, ground := Go.Ground.phase }, { on := 10, ground := Go.Ground.phase }], guard := none }) (v := ?_) rfl (by kernel_rfl) (by kernel_rfl) (by kernel_rfl) (fun _ _ _ h => h) (Or.inl ⟨by rfl, ?_⟩) (by assumption) ?_
      rotate_left 1
      · (intro w hSw; obtain ⟨k0, k1, k2, k3, k4, k5⟩ := hSw; go_simp); all_goals (with_reducible rfl)
      try simp only [Act.put, List.setIfInBounds_toArray, List.set_cons_zero, List.set_cons_succ]
      refine wpAnyH_done (by kernel_rfl) ?_ _
      go_wp2_with fail
      go_meet
      exact (by show SX _ _ _ _ _ _ _ _ _ _; rw [FX.out]; exact T6.out)
  case rest =>
    obtain ⟨y1, hq⟩ : ∃ q : World, q = wc := ⟨_, rfl⟩
    subst hq
    obtain ⟨x1, hq⟩ : ∃ q : Value, q = u3 := ⟨_, rfl⟩
    subst hq
    obtain ⟨L1, hL1⟩ : ∃ L : List (List UInt8), L = L0 ++ pw d p := ⟨_, rfl⟩
    have EL1 : Hid (L1 = L0 ++ pw d p) := hL1
    rw [← hL1] at hcut
    have S1 : Hid (SX w d p v W C b L1 x1 y1) := hcut
    have l1 : L1.length ≤ 4 := (by
      have e := PL.1
      unfold prt at e
      rw [EL1.out]
      simp only [List.length_append] at e ⊢
      have z : L0.length = 0 := by rw [EL0.out]; rfl
      omega)
    clear hcut hL1 S0
    obtain ⟨k0, k1, k2, k3, k4, k5⟩ := S1.out.bx
    go_upto_if 23 with fail
    clear k0 k1 k2 k3 k4 k5
    go_cut [3] (fun x wx => Hid (SX w d p v W C b (L1 ++ pv v) x wx))
    case first =>
      by_cases h0 : 0 ≤ v
      · have Q2 : Hid (∀ u : World, Below w.heap.size w u → Calls Tryz.prog 46 #[.int .i64 v, .int .i64 4] u fun e w' => e = .returned (.string ⟨(pad 4 (dg v)).toArray⟩) ∧ Below u.heap.size u w') := fun u hu => PD.out v 4 u hu (by omega) (by omega) (by omega)
        obtain ⟨X, hX⟩ : ∃ X, X = pad 4 (dg v) := ⟨_, rfl⟩
        have FX : Hid (pv v = [X]) := (by show _ = _; rw [hX]; unfold pv; rw [if_pos h0])
        rw [← hX] at Q2
        have d0 : (v != -1) = true := by simp; omega
        clear hX
        rw [d0]
        obtain ⟨k0, k1, k2, k3, k4, k5⟩ := S1.out.bx
        go_wp2_with fail
        refine (Q2.out _ S1.out.bel).mono ?_
        rintro e q1 ⟨rfl, bb⟩
        have S1b : Hid (SX w d p v W C b L1 x1 q1) := S1.out.on bb
        clear bb k0 k1 k2 k3 k4 k5
        go_wp2_with (at_builtin; refine wpList_append_own _ rfl _ _ 45 rfl (w.heap.size + 1) 9 i0 (.string ⟨#[]⟩) 1 16 Tryz.underlying45 hi hz0 hz1 hz2 rfl (by decide) _ _ _ rfl (S1b.out.lit _).row ⟨q1.heap.size, 0, none⟩ 1 1 [.string ⟨X.toArray⟩] rfl rfl (one_lit q1 X) (by intro u hu; simp at hu; subst hu; rfl) (by unfold maxLen; omega) (by omega) (by have := (S1b.out.lit (Obj.cells #[.string ⟨X.toArray⟩] 9)).lt; omega) ?_)
        intro v' w4 hown' hgrow _
        have SN : Hid (SX w d p v W C b (L1 ++ [X]) v' w4) := (S1b.out.lit _).app hown' hgrow
        clear hown' hgrow
        go_wp2_with fail
        go_meet
        exact (by show SX _ _ _ _ _ _ _ _ _ _; rw [FX.out]; exact SN.out)
      · have FX : Hid (L1 ++ pv v = L1) := (by show _ = _; unfold pv; rw [if_neg h0]; simp)
        have d0 : (v != -1) = false := by simp; omega
        rw [d0]
        obtain ⟨k0, k1, k2, k3, k4, k5⟩ := S1.out.bx
        go_wp2_with fail
        go_meet
        exact (by show SX _ _ _ _ _ _ _ _ _ _; rw [FX.out]; exact S1.out)
    case rest =>
      obtain ⟨y2, hq⟩ : ∃ q : World, q = wc := ⟨_, rfl⟩
      subst hq
      obtain ⟨x2, hq⟩ : ∃ q : Value, q = u3 := ⟨_, rfl⟩
      subst hq
      obtain ⟨L2, hL2⟩ : ∃ L : List (List UInt8), L = L1 ++ pv v := ⟨_, rfl⟩
      have EL2 : Hid (L2 = L1 ++ pv v) := hL2
      rw [← hL2] at hcut
      have S2 : Hid (SX w d p v W C b L2 x2 y2) := hcut
      have l2 : L2.length ≤ 4 := (by
        have e := PL.1
        unfold prt at e
        rw [EL2.out, EL1.out]
        simp only [List.length_append] at e ⊢
        have z : L0.length = 0 := by rw [EL0.out]; rfl
        omega)
      clear hcut hL2 S1
      obtain ⟨k0, k1, k2, k3, k4, k5⟩ := S2.out.bx
      go_upto_if 32 with fail
      clear k0 k1 k2 k3 k4 k5
      go_cut [3] (fun x wx => Hid (SX w d p v W C b (L2 ++ pW W) x wx))
      case first =>
        by_cases h0 : W.toList = []
        · have FX : Hid (L2 ++ pW W = L2) := (by show _ = _; unfold pW; rw [if_pos h0]; simp)
          have e2 : W.toList.isEmpty = true := by simp [h0]
          clear h0
          rw [e2]
          obtain ⟨k0, k1, k2, k3, k4, k5⟩ := S2.out.bx
          go_wp2_with fail
          go_meet
          exact (by show SX _ _ _ _ _ _ _ _ _ _; rw [FX.out]; exact S2.out)
        · have FX : Hid (pW W = [W.data.toList]) := (by show _ = _; unfold pW; rw [if_neg h0])
          have e2 : W.toList.isEmpty = false := by simpa using h0
          rw [e2]
          obtain ⟨k0, k1, k2, k3, k4, k5⟩ := S2.out.bx
          go_wp2_with (at_builtin; refine wpList_append_own _ rfl _ _ 45 rfl (w.heap.size + 1) 9 i0 (.string ⟨#[]⟩) 1 16 Tryz.underlying45 hi hz0 hz1 hz2 rfl (by decide) _ _ _ rfl (S2.out.lit _).row ⟨y2.heap.size, 0, none⟩ 1 1 [.string W] rfl rfl (one_litB y2 W) (by intro u hu; simp at hu; subst hu; rfl) (by unfold maxLen; omega) (by omega) (by have := (S2.out.lit (Obj.cells #[.string W] 9)).lt; omega) ?_)
          intro v' w4 hown' hgrow _
          have SN : Hid (SX w d p v W C b (L2 ++ [W.data.toList]) v' w4) := (S2.out.lit _).app (l := W.data.toList) (by rw [back]; exact hown') hgrow
          clear hown' hgrow
          go_wp2_with fail
          go_meet
          exact (by show SX _ _ _ _ _ _ _ _ _ _; rw [FX.out]; exact SN.out)
      case rest =>
        obtain ⟨y3, hq⟩ : ∃ q : World, q = wc := ⟨_, rfl⟩
        subst hq
        obtain ⟨x3, hq⟩ : ∃ q : Value, q = u3 := ⟨_, rfl⟩
        subst hq
        obtain ⟨L3, hL3⟩ : ∃ L : List (List UInt8), L = L2 ++ pW W := ⟨_, rfl⟩
        have EL3 : Hid (L3 = L2 ++ pW W) := hL3
        rw [← hL3] at hcut
        have S3 : Hid (SX w d p v W C b L3 x3 y3) := hcut
        have l3 : L3.length ≤ 4 := (by
          have e := PL.1
          unfold prt at e
          rw [EL3.out, EL2.out, EL1.out]
          simp only [List.length_append] at e ⊢
          have z : L0.length = 0 := by rw [EL0.out]; rfl
          omega)
        clear hcut hL3 S2
        obtain ⟨k0, k1, k2, k3, k4, k5⟩ := S3.out.bx
        go_upto_if 40 with fail
        clear k0 k1 k2 k3 k4 k5
        go_cut [3] (fun x wx => Hid (SX w d p v W C b (L3 ++ pc C b) x wx))
        case first =>
          by_cases h0 : C.toList = []
          · have FX : Hid (L3 ++ pc C b = L3) := (by show _ = _; unfold pc; rw [if_neg (by rw [h0]; decide), if_pos h0]; simp)
            have e2 : C.toList.isEmpty = true := by simp [h0]
            clear h0
            rw [e2]
            obtain ⟨k0, k1, k2, k3, k4, k5⟩ := S3.out.bx
            go_wp2_with fail
            go_meet
            exact (by show SX _ _ _ _ _ _ _ _ _ _; rw [FX.out]; exact S3.out)
          · obtain ⟨X, hX⟩ : ∃ X, X = ct C b := ⟨_, rfl⟩
            have FX : Hid (pc C b = [X]) := (by
              show _ = _
              rw [hX]
              unfold pc ct
              by_cases h9 : C.toList = [83, 75, 67]
              · rw [if_pos h9, if_pos h9]
              · rw [if_neg h9, if_neg h0, if_neg h9])
            rw [← hX] at CL
            have e2 : C.toList.isEmpty = false := by simpa using h0
            clear hX
            rw [e2]
            obtain ⟨k0, k1, k2, k3, k4, k5⟩ := S3.out.bx
            go_wp2_with fail
            refine (CL.out _ S3.out.bel).mono ?_
            rintro e q1 ⟨rfl, bb⟩
            have S3b : Hid (SX w d p v W C b L3 x3 q1) := S3.out.on bb
            clear bb k0 k1 k2 k3 k4 k5
            go_wp2_with (at_builtin; refine wpList_append_own _ rfl _ _ 45 rfl (w.heap.size + 1) 9 i0 (.string ⟨#[]⟩) 1 16 Tryz.underlying45 hi hz0 hz1 hz2 rfl (by decide) _ _ _ rfl (S3b.out.lit _).row ⟨q1.heap.size, 0, none⟩ 1 1 [.string ⟨X.toArray⟩] rfl rfl (one_lit q1 X) (by intro u hu; simp at hu; subst hu; rfl) (by unfold maxLen; omega) (by omega) (by have := (S3b.out.lit (Obj.cells #[.string ⟨X.toArray⟩] 9)).lt; omega) ?_)
            intro v' w4 hown' hgrow _
            have SN : Hid (SX w d p v W C b (L3 ++ [X]) v' w4) := (S3b.out.lit _).app hown' hgrow
            clear hown' hgrow
            go_wp2_with fail
            go_meet
            exact (by show SX _ _ _ _ _ _ _ _ _ _; rw [FX.out]; exact SN.out)
        case rest =>
          obtain ⟨y4, hq⟩ : ∃ q : World, q = wc := ⟨_, rfl⟩
          subst hq
          obtain ⟨x4, hq⟩ : ∃ q : Value, q = u3 := ⟨_, rfl⟩
          subst hq
          obtain ⟨L4, hL4⟩ : ∃ L : List (List UInt8), L = L3 ++ pc C b := ⟨_, rfl⟩
          have EL4 : Hid (L4 = L3 ++ pc C b) := hL4
          rw [← hL4] at hcut
          have S4 : Hid (SX w d p v W C b L4 x4 y4) := hcut
          have l4 : L4.length ≤ 4 := (by
            have e := PL.1
            unfold prt at e
            rw [EL4.out, EL3.out, EL2.out, EL1.out]
            simp only [List.length_append] at e ⊢
            have z : L0.length = 0 := by rw [EL0.out]; rfl
            omega)
          clear hcut hL4 S3
          have EP : Hid (L4 = prt d p v W C b) := (by show _ = _; rw [EL4.out, EL3.out, EL2.out, EL1.out, EL0.out]; rfl)
          go_wp2_with fail
          refine (WD.out L4 x4 y4 _ l4 (by rw [EP.out]; exact PL.2) S4.out.row).mono ?_
          rintro e q1 ⟨rfl, bb⟩
          have HB : Hid (Below w.heap.size w q1) := S4.out.bel.trans (bb.mono S4.out.bel.size)
          clear bb
          go_wp2_with fail
          go_ret
          exact ⟨by rw [EP.out]; rfl, HB.out⟩
end Go.Proofs.YtoaabdmbgemkjaaGreatDoor.Kt
