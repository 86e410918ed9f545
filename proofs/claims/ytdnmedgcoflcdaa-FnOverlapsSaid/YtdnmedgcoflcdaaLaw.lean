/- The law FnOverlaps walked: it returns true, whatever the code. -/
import Derived.Test.YtdnmedgcoflcdaaDrawO
import Derived.Test.YtdnmedgcoflcdaaOvs
namespace Go.Proofs.Ytdnmedgcoflcdaa.Rd
open Go.ChangeShapes Go.WideShapes Go.ChangeAt Go.RowKit Go.Proofs.Ytdnmedgcoflcdaa.Spans

abbrev said (F T : Int) (B : Bool) : Ending := .returned (.tuple #[.agg #[.int .i64 F, .int .i64 T], .bool B])

theorem both3 (a b c d : Int) : ∃ F T : Int, ∃ B : Bool,
    (∀ w, Calls Try.prog 6 #[.agg #[.int .i64 a, .int .i64 b], .agg #[.int .i64 c, .int .i64 d]] w fun e w' => e = said F T B ∧ Below w.heap.size w w') ∧
    (∀ w, Calls Try.prog 7 #[.agg #[.int .i64 a, .int .i64 b], .agg #[.int .i64 c, .int .i64 d]] w fun e w' => e = said F T B ∧ Below w.heap.size w w') ∧
    (∀ w, Calls Try.prog 7 #[.agg #[.int .i64 c, .int .i64 d], .agg #[.int .i64 a, .int .i64 b]] w fun e w' => e = said F T B ∧ Below w.heap.size w w') ∧
    (B = false ∧ F = 0 ∧ T = 0 ∨ B = true ∧ (0 ≤ a ∧ a ≤ 52596000) ∧ (0 ≤ b ∧ b ≤ 52596000) ∧ (0 ≤ c ∧ c ≤ 52596000) ∧ (0 ≤ d ∧ d ≤ 52596000) ∧ (F = a ∧ c ≤ a ∨ F = c ∧ a < c) ∧ (T = b ∧ b ≤ d ∨ T = d ∧ d < b)) := by
  cases h1 : okB a b
  · cases h2 : okB c d
    · exact ⟨0, 0, false, fun w => sov_first a b c d w h1, fun w => iov_first a b c d w h1, fun w => iov_first c d a b w h2, Or.inl ⟨rfl, rfl, rfl⟩⟩
    · exact ⟨0, 0, false, fun w => sov_first a b c d w h1, fun w => iov_first a b c d w h1, fun w => iov_second c d a b w h2 h1, Or.inl ⟨rfl, rfl, rfl⟩⟩
  cases h2 : okB c d
  · exact ⟨0, 0, false, fun w => sov_second a b c d w h1 h2, fun w => iov_second a b c d w h1 h2, fun w => iov_first c d a b w h2, Or.inl ⟨rfl, rfl, rfl⟩⟩
  obtain ⟨F, hF⟩ : ∃ F, F = a ∧ c ≤ a ∨ F = c ∧ a < c := by
    by_cases h : c ≤ a
    · exact ⟨a, Or.inl ⟨rfl, h⟩⟩
    · exact ⟨c, Or.inr ⟨rfl, by omega⟩⟩
  obtain ⟨T, hT⟩ : ∃ T, T = b ∧ b ≤ d ∨ T = d ∧ d < b := by
    by_cases h : b ≤ d
    · exact ⟨b, Or.inl ⟨rfl, h⟩⟩
    · exact ⟨d, Or.inr ⟨rfl, by omega⟩⟩
  have hF' : F = c ∧ a ≤ c ∨ F = a ∧ c < a := by omega
  have hT' : T = d ∧ d ≤ b ∨ T = b ∧ b < d := by omega
  have o1 := h1
  have o2 := h2
  simp only [okB, decide_eq_true_eq] at o1 o2
  by_cases h3 : F < T
  · exact ⟨F, T, true, fun w => sov_third a b c d F T w h1 h2 hF hT h3, fun w => iov_third a b c d F T w h1 h2 hF hT h3, fun w => iov_third c d a b F T w h2 h1 hF' hT' h3, Or.inr ⟨rfl, by omega, by omega, by omega, by omega, hF, hT⟩⟩
  · exact ⟨0, 0, false, fun w => sov_fourth a b c d F T w h1 h2 hF hT (by omega), fun w => iov_fourth a b c d F T w h1 h2 hF hT (by omega), fun w => iov_fourth c d a b F T w h2 h1 hF' hT' (by omega), Or.inl ⟨rfl, rfl, rfl⟩⟩

set_option maxHeartbeats 400000 in
theorem big_yes (a : Option Addr) (n cap : Nat) (w : World) (h : 1048576 < n) :
    Calls Try.prog 4 #[.slice a n cap] w fun e w' => e = .returned (.bool true) ∧ w' = w := by
  have i1 : (1048576 : Int) < (n : Int) := by omega
  go_enter Try.func4, Try.ntmps4
  go_wp2_with fail
  go_ret
  exact ⟨rfl, rfl⟩
set_option maxHeartbeats 400000 in
theorem big_no (a : Option Addr) (n cap : Nat) (w : World) (h : n ≤ 1048576) :
    Calls Try.prog 4 #[.slice a n cap] w fun e w' => e = .returned (.bool false) ∧ w' = w := by
  have i1 : ¬ (1048576 : Int) < (n : Int) := by omega
  go_enter Try.func4, Try.ntmps4
  go_wp2_with fail
  go_ret
  exact ⟨rfl, rfl⟩

theorem Box.below {b : Nat} {w w' : World} {x y : Int} (h : Box w b x y) (k : Below w.heap.size w w') : Box w' b x y :=
  h.turn (r := w.heap.size) (Turn.of k (Nat.le_refl _) (Nat.le_refl _)) (by have := h.lt; omega)

set_option maxRecDepth 20000 in
set_option maxHeartbeats 2000000 in
theorem law (a0 : Option Addr) (n cap : Nat) (w : World) (h : Code w a0 n cap) :
    Calls Try.prog 3 #[.slice a0 n cap] w fun e w' => e = .returned (.bool true) ∧ Below w.heap.size w w' := by
  by_cases hb : 1048576 < n
  · go_enter Try.func3, Try.ntmps3
    go_wp2_with fail
    refine (big_yes a0 n cap _ hb).mono ?_
    rintro e w1 ⟨rfl, rfl⟩
    go_wp2_with fail
    go_ret
    exact ⟨rfl, Below.refl _ _⟩
  · have hn : n ≤ 1048576 := by omega
    clear hb
    go_enter Try.func3, Try.ntmps3
    go_wp2_with fail
    refine (big_no a0 n cap _ hn).mono ?_
    rintro e wz ⟨rfl, hz⟩
    subst hz
    go_wp2_with fail
    refine (drawOverlap_any a0 n cap _ h hn).mono ?_
    rintro e w1 ⟨⟨a, b, c, d, rfl⟩, B1⟩
    obtain ⟨F, T, B, h6, h7, h8, hB⟩ := both3 a b c d
    have H6 : Hid (∀ w, Calls Try.prog 6 #[.agg #[.int .i64 a, .int .i64 b], .agg #[.int .i64 c, .int .i64 d]] w fun e w' => e = said F T B ∧ Below w.heap.size w w') := h6
    have H7 : Hid (∀ w, Calls Try.prog 7 #[.agg #[.int .i64 a, .int .i64 b], .agg #[.int .i64 c, .int .i64 d]] w fun e w' => e = said F T B ∧ Below w.heap.size w w') := h7
    have H8 : Hid (∀ w, Calls Try.prog 7 #[.agg #[.int .i64 c, .int .i64 d], .agg #[.int .i64 a, .int .i64 b]] w fun e w' => e = said F T B ∧ Below w.heap.size w w') := h8
    have HB : Hid _ := hB
    clear h6 h7 h8 hB h
    go_wp2_with fail
    refine (H6.out _).mono ?_
    rintro e w2 ⟨rfl, B2⟩
    have q1 := ((Box.new w1 a b).alloc (C2 c d)).below B2
    have q2 := (Box.new (w1.alloc (C2 a b)) c d).below B2
    have s2 := B2.size
    simp only [World.size_alloc] at s2 q2
    have BA : Below wz.heap.size wz w2 := ((B1.alloc B1.size _).alloc (by simp; have := B1.size; omega) _).trans (B2.mono (by have := B1.size; simp; omega))
    have sA := BA.size
    have sB := B1.size
    clear B2 B1
    have Q1 : Hid _ := q1
    have Q2 : Hid _ := q2
    obtain ⟨x1, x2, x3, x4, x5⟩ := q1
    obtain ⟨y1, y2, y3, y4, y5⟩ := q2
    go_wp2_with fail
    refine (H7.out _).mono ?_
    rintro e w3 ⟨rfl, B3⟩
    have q1 := (Q1.out.alloc (C2 F T)).below B3
    have q2 := (Q2.out.alloc (C2 F T)).below B3
    have BB : Below wz.heap.size wz w3 := (BA.alloc sA _).trans (B3.mono (by simp; omega))
    have s3 := B3.size
    simp only [World.size_alloc] at s3
    clear B3 Q1 Q2 x1 x2 x3 x4 x5 y1 y2 y3 y4 y5 H6 H7 BA
    have Q1 : Hid _ := q1
    have Q2 : Hid _ := q2
    obtain ⟨x1, x2, x3, x4, x5⟩ := q1
    obtain ⟨y1, y2, y3, y4, y5⟩ := q2
    go_wp2_with fail
    refine (H8.out _).mono ?_
    rintro e w4 ⟨rfl, B4⟩
    have q1 := (Q1.out.alloc (C2 F T)).below B4
    have q2 := (Q2.out.alloc (C2 F T)).below B4
    have q3 := (Box.new w3 F T).below B4
    have BC : Below wz.heap.size wz w4 := (BB.alloc BB.size _).trans (B4.mono (by have := BB.size; simp; omega))
    have s4 := B4.size
    simp only [World.size_alloc] at s4
    have sC := BC.size
    clear B4 Q1 Q2 x1 x2 x3 x4 x5 y1 y2 y3 y4 y5 H8 BB
    obtain ⟨x1, x2, x3, x4, x5⟩ := q1
    obtain ⟨y1, y2, y3, y4, y5⟩ := q2
    obtain ⟨z1, z2, z3, z4, z5⟩ := q3
    have m1 : ¬ w1.heap.size = w4.heap.size := by omega
    have m2 : ¬ w4.heap.size = w1.heap.size := by omega
    have m3 : ¬ w1.heap.size + 1 = w4.heap.size := by omega
    have m4 : ¬ w4.heap.size = w1.heap.size + 1 := by omega
    have m5 : ¬ w3.heap.size = w4.heap.size := by omega
    have m6 : ¬ w4.heap.size = w3.heap.size := by omega
    rcases HB.out with ⟨rfl, rfl, rfl⟩ | ⟨rfl, ha, hb, hc, hd, hF, hT⟩
    · clear HB
      go_wp2_with fail
      go_ret
      exact ⟨rfl, BC.alloc sC _⟩
    · clear HB
      have HF : Hid (F = a ∧ c ≤ a ∨ F = c ∧ a < c) := hF
      have HT : Hid (T = b ∧ b ≤ d ∨ T = d ∧ d < b) := hT
      clear hF hT
      have q1 : Box ((w4.alloc (Obj.cells #[Value.int IntKind.i64 F, Value.int IntKind.i64 T] 25)).alloc (Obj.cells #[Value.int IntKind.i64 a, Value.int IntKind.i64 b, Value.int IntKind.i64 c, Value.int IntKind.i64 d] 2)) w1.heap.size a b := ((Box.mk x1 x2 x3 x4 x5).alloc _).alloc _
      have q2 : Box ((w4.alloc (Obj.cells #[Value.int IntKind.i64 F, Value.int IntKind.i64 T] 25)).alloc (Obj.cells #[Value.int IntKind.i64 a, Value.int IntKind.i64 b, Value.int IntKind.i64 c, Value.int IntKind.i64 d] 2)) (w1.heap.size + 1) c d := ((Box.mk y1 y2 y3 y4 y5).alloc _).alloc _
      have q3 : Box ((w4.alloc (Obj.cells #[Value.int IntKind.i64 F, Value.int IntKind.i64 T] 25)).alloc (Obj.cells #[Value.int IntKind.i64 a, Value.int IntKind.i64 b, Value.int IntKind.i64 c, Value.int IntKind.i64 d] 2)) w3.heap.size F T := ((Box.mk z1 z2 z3 z4 z5).alloc _).alloc _
      have BD : Below wz.heap.size wz ((w4.alloc (Obj.cells #[Value.int IntKind.i64 F, Value.int IntKind.i64 T] 25)).alloc (Obj.cells #[Value.int IntKind.i64 a, Value.int IntKind.i64 b, Value.int IntKind.i64 c, Value.int IntKind.i64 d] 2)) := (BC.alloc sC _).alloc (by simp; omega) _
      have q4 : ∀ k, k < 4 → ∃ e : Int, (0 ≤ e ∧ e ≤ 52596000) ∧ ((w4.alloc (Obj.cells #[Value.int IntKind.i64 F, Value.int IntKind.i64 T] 25)).alloc (Obj.cells #[Value.int IntKind.i64 a, Value.int IntKind.i64 b, Value.int IntKind.i64 c, Value.int IntKind.i64 d] 2)).cell? ⟨w4.heap.size + 1, k, none⟩ = some (.int .i64 e) := by
        intro k hk
        rcases (by omega : k = 0 ∨ k = 1 ∨ k = 2 ∨ k = 3) with rfl | rfl | rfl | rfl
        · exact ⟨a, ha, by simp [go_sem]⟩
        · exact ⟨b, hb, by simp [go_sem]⟩
        · exact ⟨c, hc, by simp [go_sem]⟩
        · exact ⟨d, hd, by simp [go_sem]⟩
      have BD' : Hid _ := BD
      have q4' : Hid _ := q4
      clear ha hb hc hd BC BD q4
      go_wp2_with fail
      clear x1 x2 x3 x4 x5 y1 y2 y3 y4 y5 z1 z2 z3 z4 z5 m1 m2 m3 m4 m5 m6
      generalize ((w4.alloc (Obj.cells #[Value.int IntKind.i64 F, Value.int IntKind.i64 T] 25)).alloc (Obj.cells #[Value.int IntKind.i64 a, Value.int IntKind.i64 b, Value.int IntKind.i64 c, Value.int IntKind.i64 d] 2)) = W at *
      obtain ⟨x1, x2, x3, x4, x5⟩ := q1
      obtain ⟨y1, y2, y3, y4, y5⟩ := q2
      obtain ⟨z1, z2, z3, z4, z5⟩ := q3
      go_loop [12] (fun i => ∃ k : Nat, k ≤ 4 ∧ i = .int .i64 k) (fun i => 4 - (intOf i).toNat)
      case atStart => exact ⟨0, by omega, rfl⟩
      case round =>
        obtain ⟨k, hk, rfl⟩ := hrel
        by_cases hlt : k < 4
        · have i1 : (k : Int) < 4 := by omega
          have i0 : (0 : Int) ≤ (k : Int) := by omega
          obtain ⟨e, ⟨e0, e1⟩, he⟩ := q4'.out k hlt
          go_wp2_with fail
          go_loop [13] (fun t => ∃ j : Int, e - 1 ≤ j ∧ j ≤ e + 1 ∧ t = .int .i64 j) (fun t => (e + 1 - intOf t).toNat)
          case atStart => exact ⟨e - 1, by omega, by omega, by go_num⟩
          case round =>
            obtain ⟨j, j0, j1, rfl⟩ := hrel
            by_cases hj : j ≤ e
            · by_cases g1 : a ≤ j
              · by_cases g2 : j < b
                · by_cases g3 : c ≤ j
                  · by_cases g4 : j < d
                    · have g5 : F ≤ j := by have := HF.out; omega
                      have g6 : j < T := by have := HT.out; omega
                      go_wp2_with fail
                      exact ⟨⟨j + 1, by omega, by omega, rfl⟩, by simp [intOf]; omega⟩
                    · have g5 : F ≤ j := by have := HF.out; omega
                      have g6 : ¬ j < T := by have := HT.out; omega
                      go_wp2_with fail
                      exact ⟨⟨j + 1, by omega, by omega, rfl⟩, by simp [intOf]; omega⟩
                  · have g5 : ¬ F ≤ j := by have := HF.out; omega
                    go_wp2_with fail
                    exact ⟨⟨j + 1, by omega, by omega, rfl⟩, by simp [intOf]; omega⟩
                · have g6 : ¬ j < T := by have := HT.out; omega
                  by_cases g5 : F ≤ j
                  · go_wp2_with fail
                    exact ⟨⟨j + 1, by omega, by omega, rfl⟩, by simp [intOf]; omega⟩
                  · go_wp2_with fail
                    exact ⟨⟨j + 1, by omega, by omega, rfl⟩, by simp [intOf]; omega⟩
              · have g5 : ¬ F ≤ j := by have := HF.out; omega
                go_wp2_with fail
                exact ⟨⟨j + 1, by omega, by omega, rfl⟩, by simp [intOf]; omega⟩
            · go_wp2_with fail
              exact ⟨⟨k + 1, by omega, by go_num⟩, by simp [intOf]; omega⟩
        · have i1 : ¬ (k : Int) < 4 := by omega
          go_wp2_with fail
          go_ret
          exact ⟨rfl, BD'.out⟩
end Go.Proofs.Ytdnmedgcoflcdaa.Rd
