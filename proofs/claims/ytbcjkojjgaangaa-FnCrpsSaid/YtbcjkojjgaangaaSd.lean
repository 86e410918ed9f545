/- The table of scores: each of the three asked; the program's Over and Rank. -/
import Derived.Test.YtbcjkojjgaangaaSc
import Derived.Below
import Derived.Laws.EntriesVeiled
namespace Go.Proofs.Ytbcjkojjgaangaa.Sc
open Go.ChangeShapes Go.WideShapes Go.ChangeAt Go.RowKit
open Go.Proofs.Ytbcjkojjgaangaa.Lists Go.Proofs.Ytbcjkojjgaangaa.Al


set_option maxHeartbeats 1000000 in
theorem score0 (L : List Int) (x r : Int) (v : Value) (w : World) (hL : Lists.Reads w v L) (hf : L.length < 9223372036854775808)
    (C : okM L = true → ∀ w, Lists.Reads w v L → Calls Try.prog 22 #[v, .int .i64 x] w fun e w' => e = .returned (.int .i64 r) ∧ Below w.heap.size w w') :
    Calls Try.prog 14 #[v, .int .i64 0, .int .i64 x] w fun e w' => e = .returned (.int .i64 (if okM L then r else -1)) ∧ Below w.heap.size w w' := by
  have C0 : Hid (Calls Try.prog 21 #[v, .int .i64 60] w fun e w' => e = .returned (.bool (okM L)) ∧ w' = w) := iok_any L v w hL hf
  have C1 : Hid (okM L = true → ∀ W, Below w.heap.size w W → Calls Try.prog 22 #[v, .int .i64 x] W fun e w' => e = .returned (.int .i64 r) ∧ Below w.heap.size w w') := fun h W B0 => by
    refine (C h W (hL.on B0)).mono ?_
    rintro e w' ⟨rfl, hb⟩
    exact ⟨rfl, B0.trans (hb.mono B0.size)⟩
  clear C hL
  generalize okM L = bo at *
  cases bo
  · go_enter Try.func14, Try.ntmps14
    go_wp2_with fail
    refine C0.out.mono ?_
    rintro e w1 ⟨rfl, hw⟩
    subst hw
    go_wp2_with fail
    go_ret
    exact ⟨rfl, Below.refl _ _⟩
  · go_enter Try.func14, Try.ntmps14
    go_wp2_with fail
    refine C0.out.mono ?_
    rintro e w1 ⟨rfl, hw⟩
    subst hw
    go_wp2_with fail
    refine (C1.out trivial _ (by repeat' first | exact Below.refl _ _ | refine Below.setCell ?_ (Nat.le_refl _) _ | refine Below.alloc ?_ (Nat.le_refl _) _)).mono ?_
    rintro e w2 ⟨rfl, hb⟩
    have HB : Hid (Below w1.heap.size w1 w2) := hb
    clear hb
    go_wp2_with fail
    go_ret
    exact ⟨by simp, HB.out⟩


set_option maxHeartbeats 1000000 in
theorem score1 (L : List Int) (x r : Int) (v : Value) (w : World) (hL : Lists.Reads w v L) (hf : L.length < 9223372036854775808)
    (C : okM L = true → ∀ w, Lists.Reads w v L → Calls Try.prog 23 #[v, .int .i64 x] w fun e w' => e = .returned (.int .i64 r) ∧ Below w.heap.size w w') :
    Calls Try.prog 14 #[v, .int .i64 1, .int .i64 x] w fun e w' => e = .returned (.int .i64 (if okM L then r else -1)) ∧ Below w.heap.size w w' := by
  have C0 : Hid (Calls Try.prog 21 #[v, .int .i64 60] w fun e w' => e = .returned (.bool (okM L)) ∧ w' = w) := iok_any L v w hL hf
  have C1 : Hid (okM L = true → ∀ W, Below w.heap.size w W → Calls Try.prog 23 #[v, .int .i64 x] W fun e w' => e = .returned (.int .i64 r) ∧ Below w.heap.size w w') := fun h W B0 => by
    refine (C h W (hL.on B0)).mono ?_
    rintro e w' ⟨rfl, hb⟩
    exact ⟨rfl, B0.trans (hb.mono B0.size)⟩
  clear C hL
  generalize okM L = bo at *
  cases bo
  · go_enter Try.func14, Try.ntmps14
    go_wp2_with fail
    refine C0.out.mono ?_
    rintro e w1 ⟨rfl, hw⟩
    subst hw
    go_wp2_with fail
    go_ret
    exact ⟨rfl, Below.refl _ _⟩
  · go_enter Try.func14, Try.ntmps14
    go_wp2_with fail
    refine C0.out.mono ?_
    rintro e w1 ⟨rfl, hw⟩
    subst hw
    go_wp2_with fail
    refine (C1.out trivial _ (by repeat' first | exact Below.refl _ _ | refine Below.setCell ?_ (Nat.le_refl _) _ | refine Below.alloc ?_ (Nat.le_refl _) _)).mono ?_
    rintro e w2 ⟨rfl, hb⟩
    have HB : Hid (Below w1.heap.size w1 w2) := hb
    clear hb
    go_wp2_with fail
    go_ret
    exact ⟨by simp, HB.out⟩


set_option maxHeartbeats 1000000 in
theorem score2 (L : List Int) (x r : Int) (v : Value) (w : World) (hL : Lists.Reads w v L) (hf : L.length < 9223372036854775808)
    (C : okM L = true → ∀ w, Lists.Reads w v L → Calls Try.prog 24 #[v, .int .i64 x] w fun e w' => e = .returned (.int .i64 r) ∧ Below w.heap.size w w') :
    Calls Try.prog 14 #[v, .int .i64 2, .int .i64 x] w fun e w' => e = .returned (.int .i64 (if okM L then r else -1)) ∧ Below w.heap.size w w' := by
  have C0 : Hid (Calls Try.prog 21 #[v, .int .i64 60] w fun e w' => e = .returned (.bool (okM L)) ∧ w' = w) := iok_any L v w hL hf
  have C1 : Hid (okM L = true → ∀ W, Below w.heap.size w W → Calls Try.prog 24 #[v, .int .i64 x] W fun e w' => e = .returned (.int .i64 r) ∧ Below w.heap.size w w') := fun h W B0 => by
    refine (C h W (hL.on B0)).mono ?_
    rintro e w' ⟨rfl, hb⟩
    exact ⟨rfl, B0.trans (hb.mono B0.size)⟩
  clear C hL
  generalize okM L = bo at *
  cases bo
  · go_enter Try.func14, Try.ntmps14
    go_wp2_with fail
    refine C0.out.mono ?_
    rintro e w1 ⟨rfl, hw⟩
    subst hw
    go_wp2_with fail
    go_ret
    exact ⟨rfl, Below.refl _ _⟩
  · go_enter Try.func14, Try.ntmps14
    go_wp2_with fail
    refine C0.out.mono ?_
    rintro e w1 ⟨rfl, hw⟩
    subst hw
    go_wp2_with fail
    refine (C1.out trivial _ (by repeat' first | exact Below.refl _ _ | refine Below.setCell ?_ (Nat.le_refl _) _ | refine Below.alloc ?_ (Nat.le_refl _) _)).mono ?_
    rintro e w2 ⟨rfl, hb⟩
    have HB : Hid (Below w1.heap.size w1 w2) := hb
    clear hb
    go_wp2_with fail
    go_ret
    exact ⟨by simp, HB.out⟩


set_option maxHeartbeats 1000000 in
theorem iOver_any (L : List Int) (x : Int) (v : Value) (w : World) (hL : Lists.Reads w v L) (hf : L.length < 9223372036854775808) :
    Calls Try.prog 9 #[v, .int .i64 x] w fun e w' => e = .returned (.int .i64 (if okM L then cge L x L.length else -1)) ∧ Below w.heap.size w w' := by
  have C : Hid (Calls Try.prog 14 #[v, .int .i64 0, .int .i64 x] w fun e w' => e = .returned (.int .i64 (if okM L then cge L x L.length else -1)) ∧ Below w.heap.size w w') := score0 L x _ v w hL hf fun _ w' h => by
    refine (iover_any L x v w' h hf).mono ?_
    rintro e w2 ⟨rfl, rfl⟩
    exact ⟨rfl, Below.refl _ _⟩
  generalize (if okM L then cge L x L.length else -1) = r at *
  clear hL
  go_enter Try.func9, Try.ntmps9
  go_wp2_with fail
  refine C.out.mono ?_
  rintro e w1 ⟨rfl, hb⟩
  have HB : Hid (Below w.heap.size w w1) := hb
  clear hb
  go_wp2_with fail
  go_ret
  exact ⟨rfl, HB.out⟩


set_option maxHeartbeats 1000000 in
theorem iRank_any (L : List Int) (x : Int) (v : Value) (w : World) (hL : Lists.Reads w v L) (hf : L.length < 9223372036854775808) :
    Calls Try.prog 8 #[v, .int .i64 x] w fun e w' => e = .returned (.int .i64 (if okM L then clt L x L.length else -1)) ∧ Below w.heap.size w w' := by
  have C : Hid (Calls Try.prog 14 #[v, .int .i64 1, .int .i64 x] w fun e w' => e = .returned (.int .i64 (if okM L then clt L x L.length else -1)) ∧ Below w.heap.size w w') := score1 L x _ v w hL hf fun _ w' h => by
    refine (irank_any L x v w' h hf).mono ?_
    rintro e w2 ⟨rfl, rfl⟩
    exact ⟨rfl, Below.refl _ _⟩
  generalize (if okM L then clt L x L.length else -1) = r at *
  clear hL
  go_enter Try.func8, Try.ntmps8
  go_wp2_with fail
  refine C.out.mono ?_
  rintro e w1 ⟨rfl, hb⟩
  have HB : Hid (Below w.heap.size w w1) := hb
  clear hb
  go_wp2_with fail
  go_ret
  exact ⟨rfl, HB.out⟩

end Go.Proofs.Ytbcjkojjgaangaa.Sc