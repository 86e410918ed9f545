/- Contracts for Overlap, in the program and in its model. -/
import Derived.Test.YtdnmedgcoflcdaaSpans
namespace Go.Proofs.Ytdnmedgcoflcdaa.Spans
open Go.ChangeShapes Go.WideShapes Go.ChangeAt Go.RowKit

abbrev C2 (x y : Int) : Obj := .cells #[.int .i64 x, .int .i64 y] 25

/-- What three new blocks hold in a later world. -/
theorem three {w w1 : World} {a b c d : Int} (hb : Below (((w.alloc (C2 a b)).alloc (C2 c d)).alloc (C2 0 0)).heap.size (((w.alloc (C2 a b)).alloc (C2 c d)).alloc (C2 0 0)) w1) :
    (w1.cell? ⟨w.heap.size, 0, none⟩ = some (.int .i64 a) ∧ w1.cell? ⟨w.heap.size, 1, none⟩ = some (.int .i64 b)) ∧ (w1.cell? ⟨w.heap.size + 1, 0, none⟩ = some (.int .i64 c) ∧ w1.cell? ⟨w.heap.size + 1, 1, none⟩ = some (.int .i64 d)) ∧
    (w1.cell? ⟨w.heap.size + 1 + 1, 0, none⟩ = some (.int .i64 0) ∧ w1.cell? ⟨w.heap.size + 1 + 1, 1, none⟩ = some (.int .i64 0)) ∧ (w1.frozen? ⟨w.heap.size + 1 + 1, 0, none⟩ = false ∧ w1.frozen? ⟨w.heap.size + 1 + 1, 1, none⟩ = false) ∧ w.heap.size + 1 + 1 < w1.heap.size := by
  have hs := hb.size
  simp at hs
  refine ⟨⟨?_, ?_⟩, ⟨?_, ?_⟩, ⟨?_, ?_⟩, ⟨?_, ?_⟩, by omega⟩
  · rw [hb.cell (by simp; omega)]; simp [go_sem]
  · rw [hb.cell (by simp; omega)]; simp [go_sem]
  · rw [hb.cell (by simp)]; simp [go_sem]
  · rw [hb.cell (by simp)]; simp [go_sem]
  · rw [hb.cell (by simp)]; simp [go_sem]
  · rw [hb.cell (by simp)]; simp [go_sem]
  · rw [hb.frozen (by simp)]; simp [go_sem]
  · rw [hb.frozen (by simp)]; simp [go_sem]

theorem below3 {w w1 : World} {a b c d : Int} (hb : Below (((w.alloc (C2 a b)).alloc (C2 c d)).alloc (C2 0 0)).heap.size (((w.alloc (C2 a b)).alloc (C2 c d)).alloc (C2 0 0)) w1) : Below w.heap.size w w1 :=
  ((((Below.refl _ _).alloc (Nat.le_refl _) _).alloc (by simp) _).alloc (by simp; omega) _).trans (hb.mono (by simp; omega))

set_option maxHeartbeats 400000 in
theorem sov_first (a b c d : Int) (w : World) (h1 : okB a b = false) :
    Calls Try.prog 6 #[.agg #[.int .i64 a, .int .i64 b], .agg #[.int .i64 c, .int .i64 d]] w fun e w' => e = .returned (.tuple #[.agg #[.int .i64 0, .int .i64 0], .bool false]) ∧ Below w.heap.size w w' := by
  go_enter Try.func6, Try.ntmps6
  go_wp2_with fail
  refine (sok_no _ _ _ h1).mono ?_
  rintro e w1 ⟨rfl, hb⟩
  obtain ⟨⟨g1, g2⟩, ⟨g3, g4⟩, ⟨g5, g6⟩, ⟨g7, g8⟩, g9⟩ := three hb
  go_wp2_with fail
  exact bodyPost_ret (v := .tuple #[.agg #[.int .i64 0, .int .i64 0], .bool false]) (by simp [results, Try.results6, go_sem, g5, g6]) rfl ⟨rfl, ((below3 hb).setCell (by simp; omega) _).setCell (by simp; omega) _⟩

set_option maxHeartbeats 400000 in
theorem sov_second (a b c d : Int) (w : World) (h1 : okB a b = true) (h2 : okB c d = false) :
    Calls Try.prog 6 #[.agg #[.int .i64 a, .int .i64 b], .agg #[.int .i64 c, .int .i64 d]] w fun e w' => e = .returned (.tuple #[.agg #[.int .i64 0, .int .i64 0], .bool false]) ∧ Below w.heap.size w w' := by
  go_enter Try.func6, Try.ntmps6
  go_wp2_with fail
  refine (sok_yes _ _ _ h1).mono ?_
  rintro e w1 ⟨rfl, hb⟩
  obtain ⟨⟨g1, g2⟩, ⟨g3, g4⟩, ⟨g5, g6⟩, ⟨g7, g8⟩, g9⟩ := three hb
  go_wp2_with fail
  refine (sok_no _ _ _ h2).mono ?_
  rintro e w2 ⟨rfl, hb2⟩
  obtain ⟨⟨g1, g2⟩, ⟨g3, g4⟩, ⟨g5, g6⟩, ⟨g7, g8⟩, g9⟩ := three (hb.trans (hb2.mono hb.size))
  go_wp2_with fail
  exact bodyPost_ret (v := .tuple #[.agg #[.int .i64 0, .int .i64 0], .bool false]) (by simp [results, Try.results6, go_sem, g5, g6]) rfl ⟨rfl, ((below3 (hb.trans (hb2.mono hb.size))).setCell (by simp; omega) _).setCell (by simp; omega) _⟩

set_option maxHeartbeats 1000000 in
theorem sov_third (a b c d F T : Int) (w : World) (h1 : okB a b = true) (h2 : okB c d = true) (hF : F = a ∧ c ≤ a ∨ F = c ∧ a < c) (hT : T = b ∧ b ≤ d ∨ T = d ∧ d < b) (h3 : F < T) :
    Calls Try.prog 6 #[.agg #[.int .i64 a, .int .i64 b], .agg #[.int .i64 c, .int .i64 d]] w fun e w' => e = .returned (.tuple #[.agg #[.int .i64 F, .int .i64 T], .bool true]) ∧ Below w.heap.size w w' := by
  rcases hF with ⟨rfl, hF⟩ | ⟨rfl, hF⟩ <;> rcases hT with ⟨rfl, hT⟩ | ⟨rfl, hT⟩
  all_goals
    go_enter Try.func6, Try.ntmps6
    go_wp2_with fail
    refine (sok_yes _ _ _ h1).mono ?_
    rintro e w1 ⟨rfl, hb⟩
    obtain ⟨⟨g1, g2⟩, ⟨g3, g4⟩, ⟨g5, g6⟩, ⟨g7, g8⟩, g9⟩ := three hb
    go_wp2_with fail
    refine (sok_yes _ _ _ h2).mono ?_
    rintro e w2 ⟨rfl, hb2⟩
    obtain ⟨⟨g1, g2⟩, ⟨g3, g4⟩, ⟨g5, g6⟩, ⟨g7, g8⟩, g9⟩ := three (hb.trans (hb2.mono hb.size))
    go_wp2
    refine bodyPost_ret (v := .tuple #[.agg #[.int .i64 F, .int .i64 T], .bool true]) (by simp [results, Try.results6, go_sem, g5, g6]) rfl ⟨rfl, ?_⟩
    exact ((below3 (hb.trans (hb2.mono hb.size))).setCell (by simp; omega) _).setCell (by simp; omega) _

set_option maxHeartbeats 1000000 in
theorem sov_fourth (a b c d F T : Int) (w : World) (h1 : okB a b = true) (h2 : okB c d = true) (hF : F = a ∧ c ≤ a ∨ F = c ∧ a < c) (hT : T = b ∧ b ≤ d ∨ T = d ∧ d < b) (h3 : T ≤ F) :
    Calls Try.prog 6 #[.agg #[.int .i64 a, .int .i64 b], .agg #[.int .i64 c, .int .i64 d]] w fun e w' => e = .returned (.tuple #[.agg #[.int .i64 0, .int .i64 0], .bool false]) ∧ Below w.heap.size w w' := by
  rcases hF with ⟨rfl, hF⟩ | ⟨rfl, hF⟩ <;> rcases hT with ⟨rfl, hT⟩ | ⟨rfl, hT⟩
  all_goals
    go_enter Try.func6, Try.ntmps6
    go_wp2_with fail
    refine (sok_yes _ _ _ h1).mono ?_
    rintro e w1 ⟨rfl, hb⟩
    obtain ⟨⟨g1, g2⟩, ⟨g3, g4⟩, ⟨g5, g6⟩, ⟨g7, g8⟩, g9⟩ := three hb
    go_wp2_with fail
    refine (sok_yes _ _ _ h2).mono ?_
    rintro e w2 ⟨rfl, hb2⟩
    obtain ⟨⟨g1, g2⟩, ⟨g3, g4⟩, ⟨g5, g6⟩, ⟨g7, g8⟩, g9⟩ := three (hb.trans (hb2.mono hb.size))
    go_wp2
    refine bodyPost_ret (v := .tuple #[.agg #[.int .i64 0, .int .i64 0], .bool false]) (by simp [results, Try.results6, go_sem, g5, g6]) rfl ⟨rfl, ?_⟩
    exact ((below3 (hb.trans (hb2.mono hb.size))).setCell (by simp; omega) _).setCell (by simp; omega) _

set_option maxHeartbeats 400000 in
theorem iov_first (a b c d : Int) (w : World) (h1 : okB a b = false) :
    Calls Try.prog 7 #[.agg #[.int .i64 a, .int .i64 b], .agg #[.int .i64 c, .int .i64 d]] w fun e w' => e = .returned (.tuple #[.agg #[.int .i64 0, .int .i64 0], .bool false]) ∧ Below w.heap.size w w' := by
  go_enter Try.func7, Try.ntmps7
  go_wp2_with fail
  refine (iok_no _ _ _ h1).mono ?_
  rintro e w1 ⟨rfl, hb⟩
  obtain ⟨⟨g1, g2⟩, ⟨g3, g4⟩, ⟨g5, g6⟩, ⟨g7, g8⟩, g9⟩ := three hb
  go_wp2_with fail
  exact bodyPost_ret (v := .tuple #[.agg #[.int .i64 0, .int .i64 0], .bool false]) (by simp [results, Try.results7, go_sem, g5, g6]) rfl ⟨rfl, ((below3 hb).setCell (by simp; omega) _).setCell (by simp; omega) _⟩

set_option maxHeartbeats 400000 in
theorem iov_second (a b c d : Int) (w : World) (h1 : okB a b = true) (h2 : okB c d = false) :
    Calls Try.prog 7 #[.agg #[.int .i64 a, .int .i64 b], .agg #[.int .i64 c, .int .i64 d]] w fun e w' => e = .returned (.tuple #[.agg #[.int .i64 0, .int .i64 0], .bool false]) ∧ Below w.heap.size w w' := by
  go_enter Try.func7, Try.ntmps7
  go_wp2_with fail
  refine (iok_yes _ _ _ h1).mono ?_
  rintro e w1 ⟨rfl, hb⟩
  obtain ⟨⟨g1, g2⟩, ⟨g3, g4⟩, ⟨g5, g6⟩, ⟨g7, g8⟩, g9⟩ := three hb
  go_wp2_with fail
  refine (iok_no _ _ _ h2).mono ?_
  rintro e w2 ⟨rfl, hb2⟩
  obtain ⟨⟨g1, g2⟩, ⟨g3, g4⟩, ⟨g5, g6⟩, ⟨g7, g8⟩, g9⟩ := three (hb.trans (hb2.mono hb.size))
  go_wp2_with fail
  exact bodyPost_ret (v := .tuple #[.agg #[.int .i64 0, .int .i64 0], .bool false]) (by simp [results, Try.results7, go_sem, g5, g6]) rfl ⟨rfl, ((below3 (hb.trans (hb2.mono hb.size))).setCell (by simp; omega) _).setCell (by simp; omega) _⟩

set_option maxHeartbeats 1000000 in
theorem iov_third (a b c d F T : Int) (w : World) (h1 : okB a b = true) (h2 : okB c d = true) (hF : F = a ∧ c ≤ a ∨ F = c ∧ a < c) (hT : T = b ∧ b ≤ d ∨ T = d ∧ d < b) (h3 : F < T) :
    Calls Try.prog 7 #[.agg #[.int .i64 a, .int .i64 b], .agg #[.int .i64 c, .int .i64 d]] w fun e w' => e = .returned (.tuple #[.agg #[.int .i64 F, .int .i64 T], .bool true]) ∧ Below w.heap.size w w' := by
  rcases hF with ⟨rfl, hF⟩ | ⟨rfl, hF⟩ <;> rcases hT with ⟨rfl, hT⟩ | ⟨rfl, hT⟩
  all_goals
    go_enter Try.func7, Try.ntmps7
    go_wp2_with fail
    refine (iok_yes _ _ _ h1).mono ?_
    rintro e w1 ⟨rfl, hb⟩
    obtain ⟨⟨g1, g2⟩, ⟨g3, g4⟩, ⟨g5, g6⟩, ⟨g7, g8⟩, g9⟩ := three hb
    go_wp2_with fail
    refine (iok_yes _ _ _ h2).mono ?_
    rintro e w2 ⟨rfl, hb2⟩
    obtain ⟨⟨g1, g2⟩, ⟨g3, g4⟩, ⟨g5, g6⟩, ⟨g7, g8⟩, g9⟩ := three (hb.trans (hb2.mono hb.size))
    go_wp2
    refine bodyPost_ret (v := .tuple #[.agg #[.int .i64 F, .int .i64 T], .bool true]) (by simp [results, Try.results7, go_sem, g5, g6, g9]) rfl ⟨rfl, ?_⟩
    (repeat' (first | exact below3 (hb.trans (hb2.mono hb.size)) | refine Below.alloc ?_ ?_ _ | refine Below.setCell ?_ ?_ _)) <;> first | omega | (simp; omega)

set_option maxHeartbeats 1000000 in
theorem iov_fourth (a b c d F T : Int) (w : World) (h1 : okB a b = true) (h2 : okB c d = true) (hF : F = a ∧ c ≤ a ∨ F = c ∧ a < c) (hT : T = b ∧ b ≤ d ∨ T = d ∧ d < b) (h3 : T ≤ F) :
    Calls Try.prog 7 #[.agg #[.int .i64 a, .int .i64 b], .agg #[.int .i64 c, .int .i64 d]] w fun e w' => e = .returned (.tuple #[.agg #[.int .i64 0, .int .i64 0], .bool false]) ∧ Below w.heap.size w w' := by
  rcases hF with ⟨rfl, hF⟩ | ⟨rfl, hF⟩ <;> rcases hT with ⟨rfl, hT⟩ | ⟨rfl, hT⟩
  all_goals
    go_enter Try.func7, Try.ntmps7
    go_wp2_with fail
    refine (iok_yes _ _ _ h1).mono ?_
    rintro e w1 ⟨rfl, hb⟩
    obtain ⟨⟨g1, g2⟩, ⟨g3, g4⟩, ⟨g5, g6⟩, ⟨g7, g8⟩, g9⟩ := three hb
    go_wp2_with fail
    refine (iok_yes _ _ _ h2).mono ?_
    rintro e w2 ⟨rfl, hb2⟩
    obtain ⟨⟨g1, g2⟩, ⟨g3, g4⟩, ⟨g5, g6⟩, ⟨g7, g8⟩, g9⟩ := three (hb.trans (hb2.mono hb.size))
    go_wp2
    refine bodyPost_ret (v := .tuple #[.agg #[.int .i64 0, .int .i64 0], .bool false]) (by simp [results, Try.results7, go_sem, g5, g6, g9]) rfl ⟨rfl, ?_⟩
    (repeat' (first | exact below3 (hb.trans (hb2.mono hb.size)) | refine Below.alloc ?_ ?_ _ | refine Below.setCell ?_ ?_ _)) <;> first | omega | (simp; omega)
end Go.Proofs.Ytdnmedgcoflcdaa.Spans
