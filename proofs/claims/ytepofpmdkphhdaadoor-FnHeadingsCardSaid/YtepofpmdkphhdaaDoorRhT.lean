/- ReadHeading in the model. -/
import Derived.Test.YtepofpmdkphhdaaDoorRhS
import Derived.Test.YtepofpmdkphhdaaDoorRhF
import Derived.Test.YtepofpmdkphhdaaDoorHtS
namespace Go.Proofs.YtepofpmdkphhdaaDoor.Head
open Go.ChangeShapes Go.WideShapes Go.ChangeAt Go.RowKit Mk Fig
attribute [local go_sem ↓] Go.wp_at_zero Go.wp_at_succ

abbrev Z8 : Obj := .cells #[.string em, .string em, .int .i64 0, .string em, .int .i64 0, .int .i64 0, .int .i64 0, .string em] 25

/-- what the two blocks hold behind the cut -/
structure Two (w w1 : World) : Prop where
  r : ∀ o, w1.cell? ⟨w.heap.size, o, none⟩ = (#[.string em, .string em, .int .i64 0, .string em, .int .i64 0, .int .i64 0, .int .i64 0, .string em] : Array Value)[o]?
  f : ∀ o, w1.frozen? ⟨w.heap.size, o, none⟩ = false
  n : ∀ o, w1.cell? ⟨w.heap.size + 1, o, none⟩ = (#[.string em, .string em, .int .i64 0, .string em, .int .i64 0, .int .i64 0, .int .i64 0, .string em] : Array Value)[o]?
  b : Below w.heap.size w w1
  z : w.heap.size + 1 < w1.heap.size
theorem two_of {w w1 : World} (hb : Below ((w.alloc Z8).alloc Z8).heap.size ((w.alloc Z8).alloc Z8) w1) : Two w w1 := by
  refine ⟨fun o => ?_, fun o => ?_, fun o => ?_, ?_, ?_⟩
  · rw [hb.cell (p := ⟨w.heap.size, o, none⟩) (by simp; omega), World.cell?_alloc_old _ _ _ (by simp)]
    simp [World.cell?_alloc_new]
  · rw [hb.frozen (p := ⟨w.heap.size, o, none⟩) (by simp; omega)]
    simp [go_sem]
  · rw [hb.cell (p := ⟨w.heap.size + 1, o, none⟩) (by simp)]
    simp [go_sem]
  · exact (((Below.refl _ _).alloc (Nat.le_refl _) _).alloc (by simp) _).trans (hb.mono (by simp; omega))
  · have := hb.size
    simp at this
    omega
theorem Two.cells {w w1 : World} (h : Two w w1) : w1.cell? ⟨w.heap.size, 0, none⟩ = some (.string em) ∧ w1.cell? ⟨w.heap.size, 1, none⟩ = some (.string em) ∧ w1.cell? ⟨w.heap.size, 2, none⟩ = some (.int .i64 0) ∧ w1.cell? ⟨w.heap.size, 3, none⟩ = some (.string em) ∧ w1.cell? ⟨w.heap.size, 4, none⟩ = some (.int .i64 0) ∧ w1.cell? ⟨w.heap.size, 5, none⟩ = some (.int .i64 0) ∧ w1.cell? ⟨w.heap.size, 6, none⟩ = some (.int .i64 0) ∧ w1.cell? ⟨w.heap.size, 7, none⟩ = some (.string em) ∧
   w1.cell? ⟨w.heap.size + 1, 0, none⟩ = some (.string em) ∧ w1.cell? ⟨w.heap.size + 1, 1, none⟩ = some (.string em) ∧ w1.cell? ⟨w.heap.size + 1, 2, none⟩ = some (.int .i64 0) ∧ w1.cell? ⟨w.heap.size + 1, 3, none⟩ = some (.string em) ∧ w1.cell? ⟨w.heap.size + 1, 4, none⟩ = some (.int .i64 0) ∧ w1.cell? ⟨w.heap.size + 1, 5, none⟩ = some (.int .i64 0) ∧ w1.cell? ⟨w.heap.size + 1, 6, none⟩ = some (.int .i64 0) ∧ w1.cell? ⟨w.heap.size + 1, 7, none⟩ = some (.string em) :=
  ⟨h.r 0, h.r 1, h.r 2, h.r 3, h.r 4, h.r 5, h.r 6, h.r 7, h.n 0, h.n 1, h.n 2, h.n 3, h.n 4, h.n 5, h.n 6, h.n 7⟩
theorem set8 {w w1 : World} (h : Below w.heap.size w w1) (g : Nat) (hg : w.heap.size ≤ g) (v0 v1 v2 v3 v4 v5 v6 v7 : Value) : Below w.heap.size w ((((((((w1.setCell ⟨g, 0, none⟩ v0).setCell ⟨g, 1, none⟩ v1).setCell ⟨g, 2, none⟩ v2).setCell ⟨g, 3, none⟩ v3).setCell ⟨g, 4, none⟩ v4).setCell ⟨g, 5, none⟩ v5).setCell ⟨g, 6, none⟩ v6).setCell ⟨g, 7, none⟩ v7) :=
  (((((((h.setCell hg _).setCell hg _).setCell hg _).setCell hg _).setCell hg _).setCell hg _).setCell hg _).setCell hg _

set_option maxHeartbeats 4000000 in
theorem sread_len (s : ByteArray) (w : World) (hs : s.size ≤ 1048576) (h3 : (pcs s).length ≠ 3) (h4 : (pcs s).length ≠ 4) :
    Calls Tryd.prog 10 #[.string s] w fun e w' => e = .returned (.tuple #[none8, .int .i64 1]) ∧ Below w.heap.size w w' := by
  have SP : Hid (∀ w, Calls Tryd.prog 24 #[.string s] w fun e w' => ∃ v, e = .returned v ∧ w'.ownsRow w.heap.size 9 1 v (pcs s).length ((pcs s).map Value.string) ∧ Below w.heap.size w w') := fun w => spieces s w hs
  have e3 : (((pcs s).length : Int) != 3) = true := by simp; omega
  have e4 : (((pcs s).length : Int) != 4) = true := by simp; omega
  go_enter Tryd.func10, Tryd.ntmps10
  go_wp2_with fail
  refine (SP.out _).mono ?_
  rintro e w1 ⟨v, rfl, R, hb⟩
  obtain ⟨aa, cap, hv⟩ := row_form R
  subst hv
  have T : Hid (Two w w1) := two_of hb
  obtain ⟨r0, r1, r2, r3, r4, r5, r6, r7, n0, n1, n2, n3, n4, n5, n6, n7⟩ := T.out.cells
  have rf := T.out.f
  clear hb R
  go_wp2_with fail
  exact bodyPost_ret (v := .tuple #[none8, .int .i64 1]) (by simp [results, Tryd.results10, go_sem, r0, r1, r2, r3, r4, r5, r6, r7]) rfl ⟨rfl, set8 T.out.b w.heap.size (Nat.le_refl _) _ _ _ _ _ _ _ _⟩

set_option maxHeartbeats 4000000 in
theorem sread_empty (s : ByteArray) (w : World) (hs : s.size ≤ 1048576) (n : Nat) (p : Nat → ByteArray) (hn : n = 3 ∨ n = 4) (hp : pcs s = (List.range n).map p) (hz : ∃ j, j < n ∧ (p j).size = 0) :
    Calls Tryd.prog 10 #[.string s] w fun e w' => e = .returned (out 1) ∧ Below w.heap.size w w' := by
  have SP : Hid (∀ w, Calls Tryd.prog 24 #[.string s] w fun e w' => ∃ v, e = .returned v ∧ w'.ownsRow w.heap.size 9 1 v (pcs s).length ((pcs s).map Value.string) ∧ Below w.heap.size w w') := fun w => spieces s w hs
  have hl : (pcs s).length = n := by rw [hp]; simp
  have HZ : Hid (∃ j, j < n ∧ (p j).size = 0) := hz
  have HP : Hid (pcs s = (List.range n).map p) := hp
  have n0' : 3 ≤ n := by omega
  have n1' : n ≤ 4 := by omega
  clear hz hp
  go_enter Tryd.func10, Tryd.ntmps10
  go_wp2_with fail
  refine (SP.out _).mono ?_
  rintro e w1 ⟨v, rfl, R, hb⟩
  rw [hl] at R
  clear hl
  obtain ⟨aa, cap, hv⟩ := row_form R
  subst hv
  have hpa : ∃ g, aa = some ⟨g, 0, none⟩ := by
    rcases R.2 with ⟨_, h⟩ | ⟨g, cap', cur, h, _⟩
    · omega
    · simp at h; exact ⟨g, h.1⟩
  obtain ⟨g, rfl⟩ := hpa
  have CE : Hid (∀ j, j < n → w1.cell? ⟨g, j, none⟩ = some (.string (p j))) := fun j hj => by
    rw [R.cellAt j (by omega), HP.out]
    simp [hj]
  have gz : g < w1.heap.size := (R.lt g rfl).2
  have T : Hid (Two w w1) := two_of hb
  obtain ⟨r0, r1, r2, r3, r4, r5, r6, r7, n0, n1, n2, n3, n4, n5, n6, n7⟩ := T.out.cells
  have rf := T.out.f
  clear hb R
  have HN : Hid (n = 3 ∨ n = 4) := hn
  have e34 : ((n : Int) != 3) = false ∨ ((n : Int) != 3) = true ∧ ((n : Int) != 4) = false := by
    rcases hn with rfl | rfl
    · exact .inl rfl
    · exact .inr ⟨rfl, rfl⟩
  clear hn
  rcases e34 with e3 | ⟨e3, e4⟩
  all_goals
    go_wp2_with fail
    go_loop [6] (fun i => ∃ k : Nat, k ≤ n ∧ i = .int .i64 k ∧ Hid (∀ j, j < k → (p j).size ≠ 0)) (fun i => n - (intOf i).toNat)
    case atStart => exact ⟨0, Nat.zero_le _, rfl, fun j hj => by omega⟩
    case round =>
      obtain ⟨k, hk, rfl, NZ⟩ := hrel
      by_cases hlt : k < n
      · have q := CE.out k hlt
        have i0 : (0 : Int) ≤ (k : Int) := by omega
        have i1 : (k : Int) < (n : Int) := by omega
        by_cases hz : (p k).size = 0
        · have he : (p k).toList.isEmpty = true := by rw [empty_eq, decide_eq_true hz]
          go_wp2_with fail
          exact bodyPost_ret (v := .tuple #[none8, .int .i64 1]) (by simp [results, Tryd.results10, go_sem, r0, r1, r2, r3, r4, r5, r6, r7]) rfl ⟨rfl, set8 T.out.b w.heap.size (Nat.le_refl _) _ _ _ _ _ _ _ _⟩
        · have he : (p k).toList.isEmpty = false := by rw [empty_eq, decide_eq_false hz]
          have NZ' : Hid (∀ j, j < k + 1 → (p j).size ≠ 0) := fun j hj => by
            by_cases c : j = k
            · rw [c]; exact hz
            · exact NZ.out j (by omega)
          clear hz
          go_wp2_with fail
          go_round
          case rel => exact ⟨k + 1, by omega, by go_num, NZ'⟩
          case measure => simp [intOf]; omega
      · have ek : k = n := by omega
        subst ek
        obtain ⟨j, h1, h2⟩ := HZ.out
        exact absurd h2 (NZ.out j h1)
end Go.Proofs.YtepofpmdkphhdaaDoor.Head
