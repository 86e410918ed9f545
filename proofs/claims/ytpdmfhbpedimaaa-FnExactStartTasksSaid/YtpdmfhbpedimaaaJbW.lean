/- Jobs marked and held from any mark on. -/
import Derived.Test.YtpdmfhbpedimaaaJb
namespace Go.Proofs.Ytpdmfhbpedimaaa.Jb
open Go.ChangeShapes Go.WideShapes Go.ChangeAt Go.RowKit

def mkw (k0 : Int) (n : Nat) : Ls := (List.range n).map fun (i : Nat) => (k0 + (i : Int) * 2, k0 + (i : Int) * 2 + 1)
theorem mkw_len (k0 : Int) (n : Nat) : (mkw k0 n).length = n := by simp [mkw]
theorem mkw_at (k0 : Int) (n i : Nat) (h : i < n) : c0 (mkw k0 n) i = k0 + (i : Int) * 2 ∧ c1 (mkw k0 n) i = k0 + (i : Int) * 2 + 1 := by
  simp [c0, c1, mkw, List.getD_eq_getElem?_getD, h]
set_option maxHeartbeats 1000000 in
theorem markw_any (k0 : Int) (hk0 : 0 ≤ k0) (hk1 : k0 ≤ 4611686018427387904) (w : World) (base n : Nat) (v : Value) (xs : List Value) (hn : n ≤ 1048576) (h : w.ownsRow base 57 2 v n xs) :
    Calls Try.prog 40 #[v, .int .i64 k0] w fun e w' => e = .returned (.int .i64 (k0 + (n : Int) * 2)) ∧ Row w' base v (mkw k0 n) ∧ w.grownBy w' v.ownBlock := by
  unfold Row
  rw [mkw_len]
  have GE : Hid (∀ xs, Good xs (mkw k0 0) 0) := fun xs i hi => absurd hi (by omega)
  rcases row_cases h with ⟨rfl, rfl⟩ | ⟨g, c, rfl, g0, g1, x1, x2⟩
  · go_enter Try.func40, Try.ntmps40
    go_wp2
    go_loop [1, 5] (fun k i => k = .int .i64 k0 ∧ i = .int .i64 0) (fun _ _ => 0)
    case atStart => exact ⟨rfl, rfl⟩
    case round =>
      obtain ⟨rfl, rfl⟩ := hrel
      go_wp2
      go_ret
      exact ⟨by simp, ⟨[], ⟨rfl, .inl ⟨rfl, rfl⟩⟩, GE.out _⟩, World.grownBy.refl _ _⟩
  · have H0 : Hid (∃ xs, w.ownsRow base 57 2 (.slice (some ⟨g, 0, none⟩) n c) n xs ∧ Good xs (mkw k0 n) 0) := ⟨_, h, fun i hi => absurd hi (by omega)⟩
    have HM : Hid (∀ i, i < n → c0 (mkw k0 n) i = k0 + (i : Int) * 2 ∧ c1 (mkw k0 n) i = k0 + (i : Int) * 2 + 1) := fun i hi => mkw_at k0 n i hi
    unfold maxLen at x2
    generalize mkw k0 n = M at *
    clear h
    go_enter Try.func40, Try.ntmps40
    go_wp2
    go_loopw [1, 5] (fun q i wr => ∃ k : Nat, k ≤ n ∧ i = .int .i64 k ∧ q = .int .i64 (k0 + (k : Int) * 2) ∧ Hid (∃ xs, wr.ownsRow base 57 2 (.slice (some ⟨g, 0, none⟩) n c) n xs ∧ Good xs M k) ∧ Hid (w.grownBy wr (some g))) (fun _ i _ => n - (intOf i).toNat)
    case atStart => exact ⟨0, Nat.zero_le _, rfl, by simp, H0, World.grownBy.refl _ _⟩
    case round =>
      obtain ⟨k, hk, rfl, rfl, R, GR⟩ := hrel
      by_cases hlt : k < n
      · obtain ⟨xs, R1, R2⟩ := R.out
        have lx : xs.length = n * 2 := R1.1
        have i0 : (0 : Int) ≤ (k : Int) := by omega
        have i1 : (k : Int) < (n : Int) := by omega
        obtain ⟨z0, q0⟩ : ∃ z, wr.cell? ⟨g, k * 2, none⟩ = some z := ⟨xs[k * 2]'(by omega), by rw [R1.cellAt (k * 2) (by omega)]; exact List.getElem?_eq_getElem _⟩
        obtain ⟨z1, q1⟩ : ∃ z, wr.cell? ⟨g, k * 2 + 1, none⟩ = some z := ⟨xs[k * 2 + 1]'(by omega), by rw [R1.cellAt (k * 2 + 1) (by omega)]; exact List.getElem?_eq_getElem _⟩
        have f0 : wr.frozen? ⟨g, k * 2, none⟩ = false := R1.frozenAt _
        have f1 : wr.frozen? ⟨g, k * 2 + 1, none⟩ = false := R1.frozenAt _
        have R' : Hid (∃ xs, ((wr.setCell ⟨g, k * 2, none⟩ (.int .i64 (k0 + (k : Int) * 2))).setCell ⟨g, k * 2 + 1, none⟩ (.int .i64 (k0 + (k : Int) * 2 + 1))).ownsRow base 57 2 (.slice (some ⟨g, 0, none⟩) n c) n xs ∧ Good xs M (k + 1)) := by
          refine ⟨_, ((R1.stored (k * 2) _).1.stored (k * 2 + 1) _).1, ?_⟩
          have nx := R2.next (by omega)
          obtain ⟨m0, m1⟩ := HM.out k hlt
          rw [m0, m1] at nx
          exact nx
        have G' : Hid (w.grownBy ((wr.setCell ⟨g, k * 2, none⟩ (.int .i64 (k0 + (k : Int) * 2))).setCell ⟨g, k * 2 + 1, none⟩ (.int .i64 (k0 + (k : Int) * 2 + 1))) (some g)) := (grown_setCell (grown_setCell GR.out _ _) _ _)
        have j0 : IntKind.i64.wrap (k0 + (k : Int) * 2) = k0 + (k : Int) * 2 := IntWalk.i64_in _ (by omega)
        have j1 : IntKind.i64.wrap (k0 + (k : Int) * 2 + 1) = k0 + (k : Int) * 2 + 1 := IntWalk.i64_in _ (by omega)
        have j2 : IntKind.i64.wrap (k0 + (k : Int) * 2 + 1 + 1) = k0 + (k : Int) * 2 + 1 + 1 := IntWalk.i64_in _ (by omega)
        obtain ⟨y, hy⟩ : ∃ y, k0 + (k : Int) * 2 = y := ⟨_, rfl⟩
        have HY : Hid (k0 + (k : Int) * 2 = y) := hy
        rw [hy] at R' G' j0 j1 j2 ⊢
        clear R R1 R2 lx hy HM GE
        go_wp2_with fail
        go_roundw
        case rel => exact ⟨k + 1, by omega, by go_num, by congr 1; have := HY.out; omega, R', G'⟩
        case measure => simp [intOf]; omega
      · have e : k = n := by omega
        subst e
        have RE : Hid (∃ xs, wr.ownsRow base 57 2 (.slice (some ⟨g, 0, none⟩) k c) k xs ∧ Good xs M k) := R
        have j1 : ¬ (k : Int) < (k : Int) := by omega
        clear R
        go_wp2_with fail
        go_ret
        exact ⟨rfl, RE.out, GR.out⟩

set_option maxHeartbeats 1000000 in
theorem heldw_any (k0 : Int) (hk0 : 0 ≤ k0) (hk1 : k0 ≤ 4611686018427387904) (w : World) (v : Value) (n : Nat) (hn : n ≤ 1048576) (h : Reads w v (mkw k0 n)) :
    Calls Try.prog 42 #[v, .int .i64 k0] w fun e w' => e = .returned (.int .i64 (k0 + (n : Int) * 2)) ∧ ∃ m, w' = w.drewN m := by
  by_cases h0 : n = 0
  · subst h0
    obtain ⟨a, cap, rfl⟩ := h.form
    rw [mkw_len]
    clear h
    go_enter Try.func42, Try.ntmps42
    go_wp2
    go_loop [1, 5] (fun k i => k = .int .i64 k0 ∧ i = .int .i64 0) (fun _ _ => 0)
    case atStart => exact ⟨rfl, rfl⟩
    case round =>
      obtain ⟨rfl, rfl⟩ := hrel
      go_wp2
      go_ret
      exact ⟨by simp, 0, rfl⟩
  · rcases h with ⟨e, _⟩ | ⟨b, o, d, rfl, x1, x2, x3, x4⟩
    · exact absurd (by have := mkw_len k0 n; rw [e] at this; exact this.symm) h0
    rw [mkw_len] at x1 x4 ⊢
    have HC : Hid (∀ i, i < n → Cs w b o (mkw k0 n) i) := x4
    unfold maxLen at x2
    clear x4
    go_enter Try.func42, Try.ntmps42
    go_wp2
    go_loopw [1, 5] (fun q i wr => ∃ k m : Nat, k ≤ n ∧ i = .int .i64 k ∧ q = .int .i64 (k0 + (k : Int) * 2) ∧ Hid (wr = w.drewN m)) (fun _ i _ => n - (intOf i).toNat)
    case atStart => exact ⟨0, 0, Nat.zero_le _, rfl, by simp, rfl⟩
    case round =>
      obtain ⟨k, m, hk, rfl, rfl, HR⟩ := hrel
      by_cases hlt : k < n
      · have qq : Cs wr b o (mkw k0 n) k := by rw [HR.out]; exact HC.out k hlt
        obtain ⟨m0, m1⟩ := mkw_at k0 n k hlt
        unfold Cs at qq
        rw [m0, m1] at qq
        obtain ⟨q0, q1⟩ := qq
        have i0 : (0 : Int) ≤ (k : Int) := by omega
        have i1 : (k : Int) < (n : Int) := by omega
        have j0 : IntKind.i64.wrap (k0 + (k : Int) * 2) = k0 + (k : Int) * 2 := IntWalk.i64_in _ (by omega)
        have j1 : IntKind.i64.wrap (k0 + (k : Int) * 2 + 1) = k0 + (k : Int) * 2 + 1 := IntWalk.i64_in _ (by omega)
        have j2 : IntKind.i64.wrap (k0 + (k : Int) * 2 + 1 + 1) = k0 + (k : Int) * 2 + 1 + 1 := IntWalk.i64_in _ (by omega)
        obtain ⟨y, hy⟩ : ∃ y, k0 + (k : Int) * 2 = y := ⟨_, rfl⟩
        have HY : Hid (k0 + (k : Int) * 2 = y) := hy
        rw [hy] at q0 q1 j0 j1 j2  ⊢
        clear hy m0 m1
        go_wp2_with fail
        go_roundw
        case rel => exact ⟨k + 1, m, by omega, by go_num, by congr 1; have := HY.out; omega, HR⟩
        case measure => simp [intOf]; omega
      · have e : k = n := by omega
        subst e
        have j1 : ¬ (k : Int) < (k : Int) := by omega
        go_wp2_with fail
        go_ret
        exact ⟨rfl, m, HR.out⟩

end Go.Proofs.Ytpdmfhbpedimaaa.Jb
