/- Lists of probabilities: marked. -/
import Derived.Test.YtbpkmgcgiegfeaaPb
namespace Go.Proofs.Ytbpkmgcgiegfeaa.Pb
open Go.ChangeShapes Go.WideShapes Go.ChangeAt Go.RowKit

def mks (n : Nat) : Ls := (List.range n).map fun (i : Nat) => (1 + (i : Int) * 2, ((1 + (i : Int) * 2 + 1).tmod 3 == 0))
theorem mks_len (n : Nat) : (mks n).length = n := by simp [mks]
theorem mks_at (n i : Nat) (h : i < n) : c0 (mks n) i = 1 + (i : Int) * 2 ∧ c1 (mks n) i = ((1 + (i : Int) * 2 + 1).tmod 3 == 0) := by
  simp [c0, c1, mks, List.getD_eq_getElem?_getD, h]
set_option maxHeartbeats 1000000 in
theorem mark_any (w : World) (base n : Nat) (v : Value) (xs : List Value) (hn : n ≤ 1048576) (h : w.ownsRow base 41 2 v n xs) :
    Calls Try.prog 17 #[v, .int .i64 1] w fun e w' => e = .returned (.int .i64 (1 + (n : Int) * 2)) ∧ Row w' base v (mks n) ∧ w.grownBy w' v.ownBlock := by
  unfold Row
  rw [mks_len]
  have GE : Hid (∀ xs, Good xs (mks 0) 0) := fun xs i hi => absurd hi (by omega)
  rcases row_cases h with ⟨rfl, rfl⟩ | ⟨g, c, rfl, g0, g1, x1, x2⟩
  · go_enter Try.func17, Try.ntmps17
    go_wp2
    go_loop [1, 5] (fun k i => k = .int .i64 1 ∧ i = .int .i64 0) (fun _ _ => 0)
    case atStart => exact ⟨rfl, rfl⟩
    case round =>
      obtain ⟨rfl, rfl⟩ := hrel
      go_wp2
      go_ret
      exact ⟨rfl, ⟨[], ⟨rfl, .inl ⟨rfl, rfl⟩⟩, GE.out _⟩, World.grownBy.refl _ _⟩
  · have H0 : Hid (∃ xs, w.ownsRow base 41 2 (.slice (some ⟨g, 0, none⟩) n c) n xs ∧ Good xs (mks n) 0) := ⟨_, h, fun i hi => absurd hi (by omega)⟩
    have HM : Hid (∀ i, i < n → c0 (mks n) i = 1 + (i : Int) * 2 ∧ c1 (mks n) i = ((1 + (i : Int) * 2 + 1).tmod 3 == 0)) := fun i hi => mks_at n i hi
    unfold maxLen at x2
    generalize mks n = M at *
    clear h
    go_enter Try.func17, Try.ntmps17
    go_wp2
    go_loopw [1, 5] (fun q i wr => ∃ k : Nat, k ≤ n ∧ i = .int .i64 k ∧ q = .int .i64 (1 + (k : Int) * 2) ∧ Hid (∃ xs, wr.ownsRow base 41 2 (.slice (some ⟨g, 0, none⟩) n c) n xs ∧ Good xs M k) ∧ Hid (w.grownBy wr (some g))) (fun _ i _ => n - (intOf i).toNat)
    case atStart => exact ⟨0, Nat.zero_le _, rfl, rfl, H0, World.grownBy.refl _ _⟩
    case round =>
      obtain ⟨k, hk, rfl, rfl, R, GR⟩ := hrel
      by_cases hlt : k < n
      · obtain ⟨xs, R1, R2⟩ := R.out
        have lx : xs.length = n * 2 := R1.1
        have i0 : (0 : Int) ≤ (k : Int) := by omega
        have i1 : (k : Int) < (n : Int) := by omega
        obtain ⟨z0, q0⟩ : ∃ z, wr.cell? ⟨g, k * 2, none⟩ = some z := ⟨xs[k * 2]'(by omega), by rw [R1.cellAt (k * 2) (by omega)]; exact List.getElem?_eq_getElem _⟩
        obtain ⟨z1, q1⟩ : ∃ z, wr.cell? ⟨g, k * 2 + 1, none⟩ = some z := ⟨xs[k * 2 + 1]'(by omega), by rw [R1.cellAt (k * 2 + 1) (by omega)]; exact List.getElem?_eq_getElem _⟩
        have f0 : wr.frozen? ⟨g, k * 2, none⟩ = false := R1.frozenAt _
        have f1 : wr.frozen? ⟨g, k * 2 + 1, none⟩ = false := R1.frozenAt _
        have R' : Hid (∃ xs, ((wr.setCell ⟨g, k * 2, none⟩ (.int .i64 (1 + (k : Int) * 2))).setCell ⟨g, k * 2 + 1, none⟩ (.bool ((1 + (k : Int) * 2 + 1).tmod 3 == 0))).ownsRow base 41 2 (.slice (some ⟨g, 0, none⟩) n c) n xs ∧ Good xs M (k + 1)) := by
          refine ⟨_, ((R1.stored (k * 2) _).1.stored (k * 2 + 1) _).1, ?_⟩
          have nx := R2.next (by omega)
          obtain ⟨m0, m1⟩ := HM.out k hlt
          rw [m0, m1] at nx
          exact nx
        have G' : Hid (w.grownBy ((wr.setCell ⟨g, k * 2, none⟩ (.int .i64 (1 + (k : Int) * 2))).setCell ⟨g, k * 2 + 1, none⟩ (.bool ((1 + (k : Int) * 2 + 1).tmod 3 == 0))) (some g)) := (grown_setCell (grown_setCell GR.out _ _) _ _)
        have j0 : IntKind.i64.wrap (1 + (k : Int) * 2) = 1 + (k : Int) * 2 := IntWalk.i64_in _ (by omega)
        have j1 : IntKind.i64.wrap (1 + (k : Int) * 2 + 1) = 1 + (k : Int) * 2 + 1 := IntWalk.i64_in _ (by omega)
        have j2 : IntKind.i64.wrap (1 + (k : Int) * 2 + 1 + 1) = 1 + (k : Int) * 2 + 1 + 1 := IntWalk.i64_in _ (by omega)
        have jm1 : IntKind.i64.wrap ((1 + (k : Int) * 2 + 1).tmod 3) = (1 + (k : Int) * 2 + 1).tmod 3 := (by rw [Int.tmod_eq_emod_of_nonneg (by omega)]; exact IntWalk.i64_in _ (by omega))
        obtain ⟨y, hy⟩ : ∃ y, 1 + (k : Int) * 2 = y := ⟨_, rfl⟩
        have HY : Hid (1 + (k : Int) * 2 = y) := hy
        rw [hy] at R' G' j0 j1 j2 jm1 ⊢
        clear R R1 R2 lx hy HM GE
        go_wp2_with fail
        go_roundw
        case rel => exact ⟨k + 1, by omega, by go_num, by congr 1; have := HY.out; omega, R', G'⟩
        case measure => simp [intOf]; omega
      · have e : k = n := by omega
        subst e
        have RE : Hid (∃ xs, wr.ownsRow base 41 2 (.slice (some ⟨g, 0, none⟩) k c) k xs ∧ Good xs M k) := R
        have j1 : ¬ (k : Int) < (k : Int) := by omega
        clear R
        go_wp2_with fail
        go_ret
        exact ⟨rfl, RE.out, GR.out⟩

end Go.Proofs.Ytbpkmgcgiegfeaa.Pb
