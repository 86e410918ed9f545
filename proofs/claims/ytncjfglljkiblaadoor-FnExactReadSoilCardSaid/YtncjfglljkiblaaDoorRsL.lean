/- A soil read of its text: both sides answer alike; the law, walked. -/
import Derived.Test.YtncjfglljkiblaaDoorRsI
namespace Go.Proofs.YtncjfglljkiblaaDoor.Rs
open Go.ChangeShapes Go.WideShapes Go.ChangeAt Go.RowKit
open Go.Proofs.YtncjfglljkiblaaDoor.So Go.Proofs.YtncjfglljkiblaaDoor.Dec Go.Proofs.YtncjfglljkiblaaDoor.Head Go.Proofs.YtncjfglljkiblaaDoor.Fig

theorem good_dd {x : Int} (h0 : 0 ≤ x) (h1 : x ≤ 1000000000000) : good ⟨(dd x).toArray⟩ = true ∧ vl ⟨(dd x).toArray⟩ = x := by
  have e : (⟨(dd x).toArray⟩ : ByteArray).data.toList = dd x := by simp
  unfold good vl
  rw [e, parse_dd h0 h1]
  exact ⟨rfl, rfl⟩
theorem both (s : ByteArray) (hs : s.size ≤ 1048576) : ∃ (a b c d f : Int) (B : Bool), (∀ w, Calls Tryd.prog 4 #[.string s] w fun e w' => e = .returned (.tuple #[sv a b c d f, .bool B]) ∧ Below w.heap.size w w') ∧ ∀ w, Tb3 w → Calls Tryd.prog 5 #[.string s] w fun e w' => e = .returned (.tuple #[sv a b c d f, .bool B]) ∧ Below w.heap.size w w' := by
  by_cases h5 : (pcs s).length = 5
  · obtain ⟨p0, p1, p2, p3, p4, hp⟩ := five h5
    obtain ⟨P, hP⟩ : ∃ P : Nat → ByteArray, P = fun j => [p0, p1, p2, p3, p4].getD j ⟨#[]⟩ := ⟨_, rfl⟩
    have e0 : P 0 = p0 := by rw [hP]; rfl
    have e1 : P 1 = p1 := by rw [hP]; rfl
    have e2 : P 2 = p2 := by rw [hP]; rfl
    have e3 : P 3 = p3 := by rw [hP]; rfl
    have e4 : P 4 = p4 := by rw [hP]; rfl
    have hpP : pcs s = [P 0, P 1, P 2, P 3, P 4] := by rw [e0, e1, e2, e3, e4]; exact hp
    by_cases hT : ∃ a b c d f, Tells s a b c d f
    · obtain ⟨a, b, c, d, f, h⟩ := hT
      have hq := hp.symm.trans h.pcs
      simp only [List.cons.injEq, and_true] at hq
      obtain ⟨q0, q1, q2, q3, q4⟩ := hq
      obtain ⟨r1, r2, r3, r4, r5, _⟩ := okB_parts h.1
      have n0 : num p0 = a := by rw [q0]; exact num_dd (by omega) (by omega)
      have n1 : num p1 = b := by rw [q1]; exact num_dd (by omega) (by omega)
      have n2 : num p2 = c := by rw [q2]; exact num_dd (by omega) (by omega)
      have n3 : num p3 = d := by rw [q3]; exact num_dd (by omega) (by omega)
      have n4 : num p4 = f := by rw [q4]; exact num_dd (by omega) (by omega)
      have g0 := good_dd (x := a) (by omega) (by omega)
      have g1 := good_dd (x := b) (by omega) (by omega)
      have g2 := good_dd (x := c) (by omega) (by omega)
      have g3 := good_dd (x := d) (by omega) (by omega)
      have g4 := good_dd (x := f) (by omega) (by omega)
      rw [← q0] at g0
      rw [← q1] at g1
      rw [← q2] at g2
      rw [← q3] at g3
      rw [← q4] at g4
      refine ⟨a, b, c, d, f, true, fun w => sread_five s p0 p1 p2 p3 p4 w h.size hp a b c d f true (.inl ?_), fun w hw => iread_five s P w hw hs hpP a b c d f true (.inl ?_)⟩
      · rw [n0, n1, n2, n3, n4]
        exact ⟨h.1, h.2, rfl, rfl, rfl, rfl, rfl, rfl⟩
      · rw [e0, e1, e2, e3, e4, g0.2, g1.2, g2.2, g3.2, g4.2]
        refine ⟨fun j hj => ?_, ?_, rfl, rfl, rfl, rfl, rfl, rfl⟩
        · have : j = 0 ∨ j = 1 ∨ j = 2 ∨ j = 3 ∨ j = 4 := by omega
          rcases this with rfl | rfl | rfl | rfl | rfl
          · rw [e0]; exact g0.1
          · rw [e1]; exact g1.1
          · rw [e2]; exact g2.1
          · rw [e3]; exact g3.1
          · rw [e4]; exact g4.1
        · unfold txt
          rw [if_pos h.1]
          exact h.2
    · refine ⟨0, 0, 0, 0, 0, false, fun w => ?_, fun w hw => iread_five s P w hw hs hpP 0 0 0 0 0 false (.inr ⟨?_, rfl, rfl, rfl, rfl, rfl, rfl⟩)⟩
      · by_cases hz : s.size ≤ 100
        · exact sread_five s p0 p1 p2 p3 p4 w hz hp 0 0 0 0 0 false (.inr ⟨fun h => hT ⟨_, _, _, _, _, h.1, h.2⟩, rfl, rfl, rfl, rfl, rfl, rfl⟩)
        · exact sread_off s w (.inl (by omega))
      · rintro ⟨_, h⟩
        cases hk : okB (vl (P 0)) (vl (P 1)) (vl (P 2)) (vl (P 3)) (vl (P 4))
        · unfold txt at h
          rw [hk] at h
          have : pcs s = [⟨#[]⟩] := by
            unfold pcs
            rw [h]
            rfl
          rw [this] at h5
          simp at h5
        · unfold txt at h
          rw [hk] at h
          exact hT ⟨_, _, _, _, _, hk, h⟩
  · refine ⟨0, 0, 0, 0, 0, false, fun w => sread_off s w ?_, fun w _ => iread_off s w hs h5⟩
    by_cases hz : s.size ≤ 100
    · exact .inr ⟨hz, h5⟩
    · exact .inl (by omega)
set_option maxRecDepth 20000 in
set_option maxHeartbeats 1000000 in
theorem readLaw (s : ByteArray) (w : World) (hT : Tb3 w) : Calls Tryd.prog 3 #[.string s] w fun e w' => e = .returned (.bool true) ∧ Below w.heap.size w w' := by
  by_cases far : (1048576 : Int) < (s.size : Int)
  · go_enter Tryd.func3, Tryd.ntmps3
    go_wp2_with fail
    go_ret
    exact ⟨rfl, Below.refl _ _⟩
  · obtain ⟨a, b, c, d, f, B, h1, h2⟩ := both s (by omega)
    have H1 : Hid (∀ w, Calls Tryd.prog 4 #[.string s] w fun e w' => e = .returned (.tuple #[sv a b c d f, .bool B]) ∧ Below w.heap.size w w') := h1
    have H2 : Hid (∀ u, Below w.heap.size w u → Calls Tryd.prog 5 #[.string s] u fun e w' => e = .returned (.tuple #[sv a b c d f, .bool B]) ∧ Below u.heap.size u w') := fun u hu => h2 u (hT.keep hu)
    have EQ : Hid (∀ w, Calls Tryd.prog 6 #[sv a b c d f, sv a b c d f] w fun e w' => e = .returned (.bool true) ∧ Below w.heap.size w w') := fun w => eq_any a b c d f w
    have ne : (B != B) = false := by simp
    clear h1 h2 hT
    go_enter Tryd.func3, Tryd.ntmps3
    go_wp2_with fail
    refine (H1.out _).mono ?_
    rintro e w1 ⟨rfl, b1⟩
    have B1 : Hid (Below w.heap.size w w1) := b1
    clear b1
    obtain ⟨w2, hw2⟩ : ∃ w2, w2 = w1.alloc (Obj.cells #[.int .i64 a, .int .i64 b, .int .i64 c, .int .i64 d, .int .i64 f] 23) := ⟨_, rfl⟩
    have HW2 : Hid (w2 = w1.alloc (Obj.cells #[.int .i64 a, .int .i64 b, .int .i64 c, .int .i64 d, .int .i64 f] 23)) := hw2
    have B2 : Hid (Below w.heap.size w w2) := (by show Below _ _ _; rw [hw2]; exact B1.out.alloc B1.out.size _)
    have N2 : Hid ((w2.cell? ⟨w1.heap.size, 0, none⟩ = some (.int .i64 a) ∧ w2.cell? ⟨w1.heap.size, 1, none⟩ = some (.int .i64 b) ∧ w2.cell? ⟨w1.heap.size, 2, none⟩ = some (.int .i64 c) ∧ w2.cell? ⟨w1.heap.size, 3, none⟩ = some (.int .i64 d) ∧ w2.cell? ⟨w1.heap.size, 4, none⟩ = some (.int .i64 f)) ∧ w1.heap.size < w2.heap.size) := (by show _ ∧ _; rw [hw2]; simp [go_sem])
    clear hw2
    go_wp2_with fail
    rw [← HW2.out]
    refine (H2.out w2 B2.out).mono ?_
    rintro e w3 ⟨rfl, b3⟩
    have B3 : Hid (Below w.heap.size w w3) := B2.out.trans (b3.mono B2.out.size)
    have N3 := n5_on N2.out b3
    clear b3 N2 HW2
    obtain ⟨w4, hw4⟩ : ∃ w4, w4 = w3.alloc (Obj.cells #[.int .i64 a, .int .i64 b, .int .i64 c, .int .i64 d, .int .i64 f] 23) := ⟨_, rfl⟩
    have HW4 : Hid (w4 = w3.alloc (Obj.cells #[.int .i64 a, .int .i64 b, .int .i64 c, .int .i64 d, .int .i64 f] 23)) := hw4
    have B4 : Hid (Below w.heap.size w w4) := (by show Below _ _ _; rw [hw4]; exact B3.out.alloc B3.out.size _)
    have b4 : Below w3.heap.size w3 w4 := by rw [hw4]; exact (Below.refl _ _).alloc (Nat.le_refl _) _
    obtain ⟨⟨k0, k1, k2, k3, k4⟩, _⟩ := n5_on N3 b4
    clear b4 N3
    obtain ⟨m0, m1, m2, m3, m4⟩ : w4.cell? ⟨w3.heap.size, 0, none⟩ = some (.int .i64 a) ∧ w4.cell? ⟨w3.heap.size, 1, none⟩ = some (.int .i64 b) ∧ w4.cell? ⟨w3.heap.size, 2, none⟩ = some (.int .i64 c) ∧ w4.cell? ⟨w3.heap.size, 3, none⟩ = some (.int .i64 d) ∧ w4.cell? ⟨w3.heap.size, 4, none⟩ = some (.int .i64 f) := by rw [hw4]; simp [go_sem]
    clear hw4
    go_upto_region 5 with fail
    rw [← HW4.out]
    go_wp2_with fail
    refine (EQ.out w4).mono ?_
    rintro e w5 ⟨rfl, b5⟩
    have B5 : Hid (Below w.heap.size w w5) := B4.out.trans (b5.mono B4.out.size)
    clear b5 k0 k1 k2 k3 k4 m0 m1 m2 m3 m4
    go_wp2_with fail
    go_ret
    exact ⟨rfl, B5.out⟩
end Go.Proofs.YtncjfglljkiblaaDoor.Rs
