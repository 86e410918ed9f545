/- Rows of structs with strings: marked, held. -/
import Derived.Test.YtmmhmbbfeecloaaMt
import Derived.Test.YtmmhmbbfeecloaaRt
namespace Go.Proofs.Ytmmhmbbfeecloaa.Rt
open Go.ChangeShapes Go.WideShapes Go.ChangeAt Go.RowKit

def mti (z : Int) : ByteArray := To.mtx z.toNat
theorem mti_any (z : Int) (w : World) (h0 : 0 < z) (h1 : z ≤ 1000000000000000000) : Calls Try.prog 23 #[.int .i64 z] w fun e w' => e = .returned (.string (mti z)) ∧ Below w.heap.size w w' := by
  obtain ⟨n, hn⟩ : ∃ n : Nat, (n : Int) = z := ⟨z.toNat, by omega⟩
  subst hn
  exact To.mark_text n w (by omega) (by omega)
theorem grown_below {w w1 w2 : World} {row : Option Nat} (h : w.grownBy w1 row) (hb : Below w1.heap.size w1 w2) : w.grownBy w2 row := ⟨hb.os.trans h.os, hb.tape.trans h.tape, hb.output.trans h.output, Nat.le_trans h.size hb.size, fun k hk hne => (hb.block k (Nat.lt_of_lt_of_le hk h.size)).trans (h.block k hk hne)⟩
def mks (n : Nat) : Ls := (List.range n).map fun (i : Nat) => (mti (1 + (i : Int) * 2), 1 + (i : Int) * 2 + 1)
theorem mks_len (n : Nat) : (mks n).length = n := by simp [mks]
theorem mks_at (n i : Nat) (h : i < n) : c0 (mks n) i = mti (1 + (i : Int) * 2) ∧ c1 (mks n) i = 1 + (i : Int) * 2 + 1 := by
  simp [c0, c1, mks, List.getD_eq_getElem?_getD, h]
set_option maxRecDepth 20000 in
set_option maxHeartbeats 2000000 in
theorem mark_any (w : World) (base n : Nat) (v : Value) (xs : List Value) (hn : n ≤ 1048576) (h : w.ownsRow base 46 2 v n xs) :
    Calls Try.prog 10 #[v, .int .i64 1] w fun e w' => e = .returned (.int .i64 (1 + (n : Int) * 2)) ∧ Row w' base v (mks n) ∧ w.grownBy w' v.ownBlock := by
  unfold Row
  rw [mks_len]
  have GE : Hid (∀ xs, Good xs (mks 0) 0) := fun xs i hi => absurd hi (by omega)
  rcases row_cases h with ⟨rfl, rfl⟩ | ⟨g, c, rfl, g0, g1, x1, x2⟩
  · go_enter Try.func10, Try.ntmps10
    go_wp2
    go_loop [1, 5] (fun k i => k = .int .i64 1 ∧ i = .int .i64 0) (fun _ _ => 0)
    case atStart => exact ⟨rfl, rfl⟩
    case round =>
      obtain ⟨rfl, rfl⟩ := hrel
      go_wp2
      go_ret
      exact ⟨rfl, ⟨[], ⟨rfl, .inl ⟨rfl, rfl⟩⟩, GE.out _⟩, World.grownBy.refl _ _⟩
  · have H0 : Hid (∃ xs, w.ownsRow base 46 2 (.slice (some ⟨g, 0, none⟩) n c) n xs ∧ Good xs (mks n) 0) := ⟨_, h, fun i hi => absurd hi (by omega)⟩
    have HM : Hid (∀ i, i < n → c0 (mks n) i = mti (1 + (i : Int) * 2) ∧ c1 (mks n) i = 1 + (i : Int) * 2 + 1) := fun i hi => mks_at n i hi
    unfold maxLen at x2
    generalize mks n = M at *
    clear h
    go_enter Try.func10, Try.ntmps10
    go_wp2
    go_loopw [1, 5] (fun q i wr => ∃ k : Nat, k ≤ n ∧ i = .int .i64 k ∧ q = .int .i64 (1 + (k : Int) * 2) ∧ Hid (∃ xs, wr.ownsRow base 46 2 (.slice (some ⟨g, 0, none⟩) n c) n xs ∧ Good xs M k) ∧ Hid (w.grownBy wr (some g))) (fun _ i _ => n - (intOf i).toNat)
    case atStart => exact ⟨0, Nat.zero_le _, rfl, rfl, H0, World.grownBy.refl _ _⟩
    case round =>
      obtain ⟨k, hk, rfl, rfl, R, GR⟩ := hrel
      by_cases hlt : k < n
      · obtain ⟨xs, R1, R2⟩ := R.out
        have lx : xs.length = n * 2 := R1.1
        have i0 : (0 : Int) ≤ (k : Int) := by omega
        have i1 : (k : Int) < (n : Int) := by omega
        have nx := R2.next (by omega)
        obtain ⟨m0, m1⟩ := HM.out k hlt
        rw [m0, m1] at nx
        have NX : Hid (Good ((xs.set (k * 2) (.string (mti (1 + (k : Int) * 2)))).set (k * 2 + 1) (.int .i64 (1 + (k : Int) * 2 + 1))) M (k + 1)) := nx
        clear nx m0 m1
        have C0 : Hid (∀ w, Calls Try.prog 23 #[.int .i64 (1 + (k : Int) * 2)] w fun e w' => e = .returned (.string (mti (1 + (k : Int) * 2))) ∧ Below w.heap.size w w') := fun w => mti_any _ w (by omega) (by omega)
        have j0 : IntKind.i64.wrap (1 + (k : Int) * 2) = 1 + (k : Int) * 2 := IntWalk.i64_in _ (by omega)
        have j1 : IntKind.i64.wrap (1 + (k : Int) * 2 + 1) = 1 + (k : Int) * 2 + 1 := IntWalk.i64_in _ (by omega)
        have j2 : IntKind.i64.wrap (1 + (k : Int) * 2 + 1 + 1) = 1 + (k : Int) * 2 + 1 + 1 := IntWalk.i64_in _ (by omega)
        obtain ⟨y, hy⟩ : ∃ y, 1 + (k : Int) * 2 = y := ⟨_, rfl⟩
        have HY : Hid (1 + (k : Int) * 2 = y) := hy
        rw [hy] at NX j0 j1 j2 C0 ⊢
        clear R R2 hy HM GE
        have RX0 : Hid (wr.ownsRow base 46 2 (.slice (some ⟨g, 0, none⟩) n c) n xs) := R1
        have GX0 : Hid (w.grownBy wr (some g)) := GR.out
        clear R1
        go_wp2_with fail
        refine (C0.out _).mono ?_
        rintro e w1 ⟨rfl, hb⟩
        have RW1 := row_below RX0.out hb
        have GW1 : Hid (w.grownBy w1 (some g)) := grown_below GX0.out hb
        clear hb RX0 GX0 
        have lx1 := RW1.1
        try simp only [List.length_set] at lx1
        obtain ⟨z0, q0⟩ : ∃ z, w1.cell? ⟨g, k * 2, none⟩ = some z := ⟨_, by rw [RW1.cellAt (k * 2) (by omega)]; exact List.getElem?_eq_getElem (by have := RW1.1; omega)⟩
        have f0 : w1.frozen? ⟨g, k * 2, none⟩ = false := RW1.frozenAt _
        obtain ⟨z1, q1⟩ : ∃ z, w1.cell? ⟨g, k * 2 + 1, none⟩ = some z := ⟨_, by rw [RW1.cellAt (k * 2 + 1) (by omega)]; exact List.getElem?_eq_getElem (by have := RW1.1; omega)⟩
        have f1 : w1.frozen? ⟨g, k * 2 + 1, none⟩ = false := RW1.frozenAt _
        have RX1 : Hid (((w1.setCell ⟨g, k * 2, none⟩ (.string (mti (y)))).setCell ⟨g, k * 2 + 1, none⟩ (.int .i64 (y + 1))).ownsRow base 46 2 (.slice (some ⟨g, 0, none⟩) n c) n ((xs.set (k * 2) (.string (mti (y)))).set (k * 2 + 1) (.int .i64 (y + 1)))) := ((RW1.stored (k * 2) _).1.stored (k * 2 + 1) _).1
        have GX1 : Hid (w.grownBy ((w1.setCell ⟨g, k * 2, none⟩ (.string (mti (y)))).setCell ⟨g, k * 2 + 1, none⟩ (.int .i64 (y + 1))) (some g)) := (grown_setCell (grown_setCell GW1.out _ _) _ _)
        have RE : Hid (∃ xs, ((w1.setCell ⟨g, k * 2, none⟩ (.string (mti (y)))).setCell ⟨g, k * 2 + 1, none⟩ (.int .i64 (y + 1))).ownsRow base 46 2 (.slice (some ⟨g, 0, none⟩) n c) n xs ∧ Good xs M (k + 1)) := ⟨_, RX1.out, NX.out⟩
        clear RW1
        go_wp2_with fail
        go_roundw
        case rel => exact ⟨k + 1, by omega, by go_num, by congr 1; have := HY.out; omega, RE, GX1⟩
        case measure => simp [intOf]; omega
      · have e : k = n := by omega
        subst e
        have RE : Hid (∃ xs, wr.ownsRow base 46 2 (.slice (some ⟨g, 0, none⟩) k c) k xs ∧ Good xs M k) := R
        have j1 : ¬ (k : Int) < (k : Int) := by omega
        clear R
        go_wp2_with fail
        go_ret
        exact ⟨rfl, RE.out, GR.out⟩
set_option maxRecDepth 20000 in
set_option maxHeartbeats 2000000 in
theorem held_any (w : World) (v : Value) (n : Nat) (hn : n ≤ 1048576) (h : Reads w v (mks n)) :
    Calls Try.prog 26 #[v, .int .i64 1] w fun e w' => e = .returned (.int .i64 (1 + (n : Int) * 2)) ∧ Below w.heap.size w w' := by
  by_cases h0 : n = 0
  · subst h0
    obtain ⟨a, cap, rfl⟩ := h.form
    rw [mks_len]
    clear h
    go_enter Try.func26, Try.ntmps26
    go_wp2
    go_loop [1, 5] (fun k i => k = .int .i64 1 ∧ i = .int .i64 0) (fun _ _ => 0)
    case atStart => exact ⟨rfl, rfl⟩
    case round =>
      obtain ⟨rfl, rfl⟩ := hrel
      go_wp2
      go_ret
      exact ⟨rfl, Below.refl _ _⟩
  · rcases h with ⟨e, _⟩ | ⟨b, o, d, rfl, x1, x2, x3, x4⟩
    · exact absurd (by have := mks_len n; rw [e] at this; exact this.symm) h0
    rw [mks_len] at x1 x4 ⊢
    have HC : Hid (∀ w', Below w.heap.size w w' → ∀ i, i < n → Cs w' b o (mks n) i) := fun w' hb i hi => (x4 i hi).below hb x3
    have hii : ∀ b : Int, (b != b) = false := fun b => by simp
    unfold maxLen at x2
    clear x4
    go_enter Try.func26, Try.ntmps26
    go_wp2
    go_loopw [1, 5] (fun q i wr => ∃ k : Nat, k ≤ n ∧ i = .int .i64 k ∧ q = .int .i64 (1 + (k : Int) * 2) ∧ Hid (Below w.heap.size w wr)) (fun _ i _ => n - (intOf i).toNat)
    case atStart => exact ⟨0, Nat.zero_le _, rfl, rfl, Below.refl _ _⟩
    case round =>
      obtain ⟨k, hk, rfl, rfl, BB⟩ := hrel
      by_cases hlt : k < n
      · have HQ0 : Hid (∀ w', Below w.heap.size w w' → Cs w' b o (mks n) k) := fun w' hb => HC.out w' hb k hlt
        have HQ : Hid (∀ w', Below w.heap.size w w' → w'.cell? ⟨b, o + k * 2, none⟩ = some (.string (mti (1 + (k : Int) * 2))) ∧ w'.cell? ⟨b, o + k * 2 + 1, none⟩ = some (.int .i64 (1 + (k : Int) * 2 + 1))) := fun w' hb => (by
          have qq := HQ0.out w' hb
          obtain ⟨m0, m1⟩ := mks_at n k hlt
          unfold Cs at qq
          rw [m0, m1] at qq
          exact qq)
        clear HQ0
        have i0 : (0 : Int) ≤ (k : Int) := by omega
        have i1 : (k : Int) < (n : Int) := by omega
        have C0 : Hid (∀ w, Calls Try.prog 23 #[.int .i64 (1 + (k : Int) * 2)] w fun e w' => e = .returned (.string (mti (1 + (k : Int) * 2))) ∧ Below w.heap.size w w') := fun w => mti_any _ w (by omega) (by omega)
        have j0 : IntKind.i64.wrap (1 + (k : Int) * 2) = 1 + (k : Int) * 2 := IntWalk.i64_in _ (by omega)
        have j1 : IntKind.i64.wrap (1 + (k : Int) * 2 + 1) = 1 + (k : Int) * 2 + 1 := IntWalk.i64_in _ (by omega)
        have j2 : IntKind.i64.wrap (1 + (k : Int) * 2 + 1 + 1) = 1 + (k : Int) * 2 + 1 + 1 := IntWalk.i64_in _ (by omega)
        obtain ⟨y, hy⟩ : ∃ y, 1 + (k : Int) * 2 = y := ⟨_, rfl⟩
        have HY : Hid (1 + (k : Int) * 2 = y) := hy
        rw [hy] at HQ j0 j1 j2 C0 ⊢
        clear hy
        obtain ⟨q0, q1⟩ := HQ.out wr BB.out
        go_upto_region 1 with fail
        go_region_held3 (fun w' => w'.cell? ⟨b, o + k * 2, none⟩ = some (.string (mti (y)))) (go_keep)
          (first
          | (go_at_call 23; refine (C0.out _).mono ?_; rintro e w1 ⟨rfl, hb⟩; have B1 : Hid (Below w.heap.size w w1) := (BB.out.drew).trans (hb.mono BB.out.drew.size); obtain ⟨q1_0, q1_1⟩ := HQ.out w1 B1.out; clear hb))
        clear q0 q1
        go_wp2_with fail
        go_roundw
        case rel => exact ⟨k + 1, by omega, by go_num, by congr 1; have := HY.out; omega, B1⟩
        case measure => simp [intOf]; omega
      · have e : k = n := by omega
        subst e
        have j1 : ¬ (k : Int) < (k : Int) := by omega
        go_wp2_with fail
        go_ret
        exact ⟨rfl, BB.out⟩
end Go.Proofs.Ytmmhmbbfeecloaa.Rt
