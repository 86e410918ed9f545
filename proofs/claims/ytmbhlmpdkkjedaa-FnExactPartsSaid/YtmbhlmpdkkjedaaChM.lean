/- Rows of structs with strings: marked, held. -/
import Derived.Test.YtmbhlmpdkkjedaaMt
import Derived.Test.YtmbhlmpdkkjedaaCh
namespace Go.Proofs.Ytmbhlmpdkkjedaa.Ch
open Go.ChangeShapes Go.WideShapes Go.ChangeAt Go.RowKit

def mti (z : Int) : ByteArray := To.mtx z.toNat
theorem mti_any (z : Int) (w : World) (h0 : 0 < z) (h1 : z ≤ 1000000000000000000) : Calls Try.prog 49 #[.int .i64 z] w fun e w' => e = .returned (.string (mti z)) ∧ Below w.heap.size w w' := by
  obtain ⟨n, hn⟩ : ∃ n : Nat, (n : Int) = z := ⟨z.toNat, by omega⟩
  subst hn
  exact To.mark_text n w (by omega) (by omega)
theorem grown_below {w w1 w2 : World} {row : Option Nat} (h : w.grownBy w1 row) (hb : Below w1.heap.size w1 w2) : w.grownBy w2 row := ⟨hb.os.trans h.os, hb.tape.trans h.tape, hb.output.trans h.output, Nat.le_trans h.size hb.size, fun k hk hne => (hb.block k (Nat.lt_of_lt_of_le hk h.size)).trans (h.block k hk hne)⟩
def mks (n : Nat) : Ls := (List.range n).map fun (i : Nat) => (1 + (i : Int) * 9, 1 + (i : Int) * 9 + 1, 1 + (i : Int) * 9 + 1 + 1, 1 + (i : Int) * 9 + 1 + 1 + 1, 1 + (i : Int) * 9 + 1 + 1 + 1 + 1, 1 + (i : Int) * 9 + 1 + 1 + 1 + 1 + 1, mti (1 + (i : Int) * 9 + 1 + 1 + 1 + 1 + 1 + 1), mti (1 + (i : Int) * 9 + 1 + 1 + 1 + 1 + 1 + 1 + 1), 1 + (i : Int) * 9 + 1 + 1 + 1 + 1 + 1 + 1 + 1 + 1)
theorem mks_len (n : Nat) : (mks n).length = n := by simp [mks]
theorem mks_at (n i : Nat) (h : i < n) : c0 (mks n) i = 1 + (i : Int) * 9 ∧ c1 (mks n) i = 1 + (i : Int) * 9 + 1 ∧ c2 (mks n) i = 1 + (i : Int) * 9 + 1 + 1 ∧ c3 (mks n) i = 1 + (i : Int) * 9 + 1 + 1 + 1 ∧ c4 (mks n) i = 1 + (i : Int) * 9 + 1 + 1 + 1 + 1 ∧ c5 (mks n) i = 1 + (i : Int) * 9 + 1 + 1 + 1 + 1 + 1 ∧ c6 (mks n) i = mti (1 + (i : Int) * 9 + 1 + 1 + 1 + 1 + 1 + 1) ∧ c7 (mks n) i = mti (1 + (i : Int) * 9 + 1 + 1 + 1 + 1 + 1 + 1 + 1) ∧ c8 (mks n) i = 1 + (i : Int) * 9 + 1 + 1 + 1 + 1 + 1 + 1 + 1 + 1 := by
  simp [c0, c1, c2, c3, c4, c5, c6, c7, c8, mks, List.getD_eq_getElem?_getD, h]
set_option maxRecDepth 20000 in
set_option maxHeartbeats 2000000 in
theorem mark_any (w : World) (base n : Nat) (v : Value) (xs : List Value) (hn : n ≤ 1048576) (h : w.ownsRow base 60 9 v n xs) :
    Calls Try.prog 48 #[v, .int .i64 1] w fun e w' => e = .returned (.int .i64 (1 + (n : Int) * 9)) ∧ Row w' base v (mks n) ∧ w.grownBy w' v.ownBlock := by
  unfold Row
  rw [mks_len]
  have GE : Hid (∀ xs, Good xs (mks 0) 0) := fun xs i hi => absurd hi (by omega)
  rcases row_cases h with ⟨rfl, rfl⟩ | ⟨g, c, rfl, g0, g1, x1, x2⟩
  · go_enter Try.func48, Try.ntmps48
    go_wp2
    go_loop [1, 5] (fun k i => k = .int .i64 1 ∧ i = .int .i64 0) (fun _ _ => 0)
    case atStart => exact ⟨rfl, rfl⟩
    case round =>
      obtain ⟨rfl, rfl⟩ := hrel
      go_wp2
      go_ret
      exact ⟨rfl, ⟨[], ⟨rfl, .inl ⟨rfl, rfl⟩⟩, GE.out _⟩, World.grownBy.refl _ _⟩
  · have H0 : Hid (∃ xs, w.ownsRow base 60 9 (.slice (some ⟨g, 0, none⟩) n c) n xs ∧ Good xs (mks n) 0) := ⟨_, h, fun i hi => absurd hi (by omega)⟩
    have HM : Hid (∀ i, i < n → c0 (mks n) i = 1 + (i : Int) * 9 ∧ c1 (mks n) i = 1 + (i : Int) * 9 + 1 ∧ c2 (mks n) i = 1 + (i : Int) * 9 + 1 + 1 ∧ c3 (mks n) i = 1 + (i : Int) * 9 + 1 + 1 + 1 ∧ c4 (mks n) i = 1 + (i : Int) * 9 + 1 + 1 + 1 + 1 ∧ c5 (mks n) i = 1 + (i : Int) * 9 + 1 + 1 + 1 + 1 + 1 ∧ c6 (mks n) i = mti (1 + (i : Int) * 9 + 1 + 1 + 1 + 1 + 1 + 1) ∧ c7 (mks n) i = mti (1 + (i : Int) * 9 + 1 + 1 + 1 + 1 + 1 + 1 + 1) ∧ c8 (mks n) i = 1 + (i : Int) * 9 + 1 + 1 + 1 + 1 + 1 + 1 + 1 + 1) := fun i hi => mks_at n i hi
    unfold maxLen at x2
    generalize mks n = M at *
    clear h
    go_enter Try.func48, Try.ntmps48
    go_wp2
    go_loopw [1, 5] (fun q i wr => ∃ k : Nat, k ≤ n ∧ i = .int .i64 k ∧ q = .int .i64 (1 + (k : Int) * 9) ∧ Hid (∃ xs, wr.ownsRow base 60 9 (.slice (some ⟨g, 0, none⟩) n c) n xs ∧ Good xs M k) ∧ Hid (w.grownBy wr (some g))) (fun _ i _ => n - (intOf i).toNat)
    case atStart => exact ⟨0, Nat.zero_le _, rfl, rfl, H0, World.grownBy.refl _ _⟩
    case round =>
      obtain ⟨k, hk, rfl, rfl, R, GR⟩ := hrel
      by_cases hlt : k < n
      · obtain ⟨xs, R1, R2⟩ := R.out
        have lx : xs.length = n * 9 := R1.1
        have i0 : (0 : Int) ≤ (k : Int) := by omega
        have i1 : (k : Int) < (n : Int) := by omega
        have nx := R2.next (by omega)
        obtain ⟨m0, m1, m2, m3, m4, m5, m6, m7, m8⟩ := HM.out k hlt
        rw [m0, m1, m2, m3, m4, m5, m6, m7, m8] at nx
        have NX : Hid (Good (((((((((xs.set (k * 9) (.int .i64 (1 + (k : Int) * 9))).set (k * 9 + 1) (.int .i64 (1 + (k : Int) * 9 + 1))).set (k * 9 + 2) (.int .i64 (1 + (k : Int) * 9 + 1 + 1))).set (k * 9 + 3) (.int .i64 (1 + (k : Int) * 9 + 1 + 1 + 1))).set (k * 9 + 4) (.int .i64 (1 + (k : Int) * 9 + 1 + 1 + 1 + 1))).set (k * 9 + 5) (.int .i64 (1 + (k : Int) * 9 + 1 + 1 + 1 + 1 + 1))).set (k * 9 + 6) (.string (mti (1 + (k : Int) * 9 + 1 + 1 + 1 + 1 + 1 + 1)))).set (k * 9 + 7) (.string (mti (1 + (k : Int) * 9 + 1 + 1 + 1 + 1 + 1 + 1 + 1)))).set (k * 9 + 8) (.int .i64 (1 + (k : Int) * 9 + 1 + 1 + 1 + 1 + 1 + 1 + 1 + 1))) M (k + 1)) := nx
        clear nx m0 m1 m2 m3 m4 m5 m6 m7 m8
        have C6 : Hid (∀ w, Calls Try.prog 49 #[.int .i64 (1 + (k : Int) * 9 + 1 + 1 + 1 + 1 + 1 + 1)] w fun e w' => e = .returned (.string (mti (1 + (k : Int) * 9 + 1 + 1 + 1 + 1 + 1 + 1))) ∧ Below w.heap.size w w') := fun w => mti_any _ w (by omega) (by omega)
        have C7 : Hid (∀ w, Calls Try.prog 49 #[.int .i64 (1 + (k : Int) * 9 + 1 + 1 + 1 + 1 + 1 + 1 + 1)] w fun e w' => e = .returned (.string (mti (1 + (k : Int) * 9 + 1 + 1 + 1 + 1 + 1 + 1 + 1))) ∧ Below w.heap.size w w') := fun w => mti_any _ w (by omega) (by omega)
        have j0 : IntKind.i64.wrap (1 + (k : Int) * 9) = 1 + (k : Int) * 9 := IntWalk.i64_in _ (by omega)
        have j1 : IntKind.i64.wrap (1 + (k : Int) * 9 + 1) = 1 + (k : Int) * 9 + 1 := IntWalk.i64_in _ (by omega)
        have j2 : IntKind.i64.wrap (1 + (k : Int) * 9 + 1 + 1) = 1 + (k : Int) * 9 + 1 + 1 := IntWalk.i64_in _ (by omega)
        have j3 : IntKind.i64.wrap (1 + (k : Int) * 9 + 1 + 1 + 1) = 1 + (k : Int) * 9 + 1 + 1 + 1 := IntWalk.i64_in _ (by omega)
        have j4 : IntKind.i64.wrap (1 + (k : Int) * 9 + 1 + 1 + 1 + 1) = 1 + (k : Int) * 9 + 1 + 1 + 1 + 1 := IntWalk.i64_in _ (by omega)
        have j5 : IntKind.i64.wrap (1 + (k : Int) * 9 + 1 + 1 + 1 + 1 + 1) = 1 + (k : Int) * 9 + 1 + 1 + 1 + 1 + 1 := IntWalk.i64_in _ (by omega)
        have j6 : IntKind.i64.wrap (1 + (k : Int) * 9 + 1 + 1 + 1 + 1 + 1 + 1) = 1 + (k : Int) * 9 + 1 + 1 + 1 + 1 + 1 + 1 := IntWalk.i64_in _ (by omega)
        have j7 : IntKind.i64.wrap (1 + (k : Int) * 9 + 1 + 1 + 1 + 1 + 1 + 1 + 1) = 1 + (k : Int) * 9 + 1 + 1 + 1 + 1 + 1 + 1 + 1 := IntWalk.i64_in _ (by omega)
        have j8 : IntKind.i64.wrap (1 + (k : Int) * 9 + 1 + 1 + 1 + 1 + 1 + 1 + 1 + 1) = 1 + (k : Int) * 9 + 1 + 1 + 1 + 1 + 1 + 1 + 1 + 1 := IntWalk.i64_in _ (by omega)
        have j9 : IntKind.i64.wrap (1 + (k : Int) * 9 + 1 + 1 + 1 + 1 + 1 + 1 + 1 + 1 + 1) = 1 + (k : Int) * 9 + 1 + 1 + 1 + 1 + 1 + 1 + 1 + 1 + 1 := IntWalk.i64_in _ (by omega)
        obtain ⟨y, hy⟩ : ∃ y, 1 + (k : Int) * 9 = y := ⟨_, rfl⟩
        have HY : Hid (1 + (k : Int) * 9 = y) := hy
        rw [hy] at NX j0 j1 j2 j3 j4 j5 j6 j7 j8 j9 C6 C7 ⊢
        clear R R2 hy HM GE
        obtain ⟨z0, q0⟩ : ∃ z, wr.cell? ⟨g, k * 9, none⟩ = some z := ⟨_, by rw [R1.cellAt (k * 9) (by omega)]; exact List.getElem?_eq_getElem (by have := R1.1; omega)⟩
        have f0 : wr.frozen? ⟨g, k * 9, none⟩ = false := R1.frozenAt _
        obtain ⟨z1, q1⟩ : ∃ z, wr.cell? ⟨g, k * 9 + 1, none⟩ = some z := ⟨_, by rw [R1.cellAt (k * 9 + 1) (by omega)]; exact List.getElem?_eq_getElem (by have := R1.1; omega)⟩
        have f1 : wr.frozen? ⟨g, k * 9 + 1, none⟩ = false := R1.frozenAt _
        obtain ⟨z2, q2⟩ : ∃ z, wr.cell? ⟨g, k * 9 + 2, none⟩ = some z := ⟨_, by rw [R1.cellAt (k * 9 + 2) (by omega)]; exact List.getElem?_eq_getElem (by have := R1.1; omega)⟩
        have f2 : wr.frozen? ⟨g, k * 9 + 2, none⟩ = false := R1.frozenAt _
        obtain ⟨z3, q3⟩ : ∃ z, wr.cell? ⟨g, k * 9 + 3, none⟩ = some z := ⟨_, by rw [R1.cellAt (k * 9 + 3) (by omega)]; exact List.getElem?_eq_getElem (by have := R1.1; omega)⟩
        have f3 : wr.frozen? ⟨g, k * 9 + 3, none⟩ = false := R1.frozenAt _
        obtain ⟨z4, q4⟩ : ∃ z, wr.cell? ⟨g, k * 9 + 4, none⟩ = some z := ⟨_, by rw [R1.cellAt (k * 9 + 4) (by omega)]; exact List.getElem?_eq_getElem (by have := R1.1; omega)⟩
        have f4 : wr.frozen? ⟨g, k * 9 + 4, none⟩ = false := R1.frozenAt _
        obtain ⟨z5, q5⟩ : ∃ z, wr.cell? ⟨g, k * 9 + 5, none⟩ = some z := ⟨_, by rw [R1.cellAt (k * 9 + 5) (by omega)]; exact List.getElem?_eq_getElem (by have := R1.1; omega)⟩
        have f5 : wr.frozen? ⟨g, k * 9 + 5, none⟩ = false := R1.frozenAt _
        have RX0 : Hid (((((((wr.setCell ⟨g, k * 9, none⟩ (.int .i64 (y))).setCell ⟨g, k * 9 + 1, none⟩ (.int .i64 (y + 1))).setCell ⟨g, k * 9 + 2, none⟩ (.int .i64 (y + 1 + 1))).setCell ⟨g, k * 9 + 3, none⟩ (.int .i64 (y + 1 + 1 + 1))).setCell ⟨g, k * 9 + 4, none⟩ (.int .i64 (y + 1 + 1 + 1 + 1))).setCell ⟨g, k * 9 + 5, none⟩ (.int .i64 (y + 1 + 1 + 1 + 1 + 1))).ownsRow base 60 9 (.slice (some ⟨g, 0, none⟩) n c) n ((((((xs.set (k * 9) (.int .i64 (y))).set (k * 9 + 1) (.int .i64 (y + 1))).set (k * 9 + 2) (.int .i64 (y + 1 + 1))).set (k * 9 + 3) (.int .i64 (y + 1 + 1 + 1))).set (k * 9 + 4) (.int .i64 (y + 1 + 1 + 1 + 1))).set (k * 9 + 5) (.int .i64 (y + 1 + 1 + 1 + 1 + 1)))) := ((((((R1.stored (k * 9) _).1.stored (k * 9 + 1) _).1.stored (k * 9 + 2) _).1.stored (k * 9 + 3) _).1.stored (k * 9 + 4) _).1.stored (k * 9 + 5) _).1
        have GX0 : Hid (w.grownBy ((((((wr.setCell ⟨g, k * 9, none⟩ (.int .i64 (y))).setCell ⟨g, k * 9 + 1, none⟩ (.int .i64 (y + 1))).setCell ⟨g, k * 9 + 2, none⟩ (.int .i64 (y + 1 + 1))).setCell ⟨g, k * 9 + 3, none⟩ (.int .i64 (y + 1 + 1 + 1))).setCell ⟨g, k * 9 + 4, none⟩ (.int .i64 (y + 1 + 1 + 1 + 1))).setCell ⟨g, k * 9 + 5, none⟩ (.int .i64 (y + 1 + 1 + 1 + 1 + 1))) (some g)) := (grown_setCell (grown_setCell (grown_setCell (grown_setCell (grown_setCell (grown_setCell GR.out _ _) _ _) _ _) _ _) _ _) _ _)
        clear R1
        go_wp2_with fail
        refine (C6.out _).mono ?_
        rintro e w1 ⟨rfl, hb⟩
        have RW1 := row_below RX0.out hb
        have GW1 : Hid (w.grownBy w1 (some g)) := grown_below GX0.out hb
        clear hb RX0 GX0 q0 f0 q1 f1 q2 f2 q3 f3 q4 f4 q5 f5
        have lx1 := RW1.1
        simp only [List.length_set] at lx1
        obtain ⟨z6, q6⟩ : ∃ z, w1.cell? ⟨g, k * 9 + 6, none⟩ = some z := ⟨_, by rw [RW1.cellAt (k * 9 + 6) (by omega)]; exact List.getElem?_eq_getElem (by have := RW1.1; omega)⟩
        have f6 : w1.frozen? ⟨g, k * 9 + 6, none⟩ = false := RW1.frozenAt _
        have RX1 : Hid ((w1.setCell ⟨g, k * 9 + 6, none⟩ (.string (mti (y + 1 + 1 + 1 + 1 + 1 + 1)))).ownsRow base 60 9 (.slice (some ⟨g, 0, none⟩) n c) n (((((((xs.set (k * 9) (.int .i64 (y))).set (k * 9 + 1) (.int .i64 (y + 1))).set (k * 9 + 2) (.int .i64 (y + 1 + 1))).set (k * 9 + 3) (.int .i64 (y + 1 + 1 + 1))).set (k * 9 + 4) (.int .i64 (y + 1 + 1 + 1 + 1))).set (k * 9 + 5) (.int .i64 (y + 1 + 1 + 1 + 1 + 1))).set (k * 9 + 6) (.string (mti (y + 1 + 1 + 1 + 1 + 1 + 1))))) := (RW1.stored (k * 9 + 6) _).1
        have GX1 : Hid (w.grownBy (w1.setCell ⟨g, k * 9 + 6, none⟩ (.string (mti (y + 1 + 1 + 1 + 1 + 1 + 1)))) (some g)) := (grown_setCell GW1.out _ _)
        clear RW1
        go_wp2_with fail
        refine (C7.out _).mono ?_
        rintro e w2 ⟨rfl, hb⟩
        have RW2 := row_below RX1.out hb
        have GW2 : Hid (w.grownBy w2 (some g)) := grown_below GX1.out hb
        clear hb RX1 GX1 q6 f6
        have lx2 := RW2.1
        simp only [List.length_set] at lx2
        obtain ⟨z7, q7⟩ : ∃ z, w2.cell? ⟨g, k * 9 + 7, none⟩ = some z := ⟨_, by rw [RW2.cellAt (k * 9 + 7) (by omega)]; exact List.getElem?_eq_getElem (by have := RW2.1; omega)⟩
        have f7 : w2.frozen? ⟨g, k * 9 + 7, none⟩ = false := RW2.frozenAt _
        obtain ⟨z8, q8⟩ : ∃ z, w2.cell? ⟨g, k * 9 + 8, none⟩ = some z := ⟨_, by rw [RW2.cellAt (k * 9 + 8) (by omega)]; exact List.getElem?_eq_getElem (by have := RW2.1; omega)⟩
        have f8 : w2.frozen? ⟨g, k * 9 + 8, none⟩ = false := RW2.frozenAt _
        have RX2 : Hid (((w2.setCell ⟨g, k * 9 + 7, none⟩ (.string (mti (y + 1 + 1 + 1 + 1 + 1 + 1 + 1)))).setCell ⟨g, k * 9 + 8, none⟩ (.int .i64 (y + 1 + 1 + 1 + 1 + 1 + 1 + 1 + 1))).ownsRow base 60 9 (.slice (some ⟨g, 0, none⟩) n c) n (((((((((xs.set (k * 9) (.int .i64 (y))).set (k * 9 + 1) (.int .i64 (y + 1))).set (k * 9 + 2) (.int .i64 (y + 1 + 1))).set (k * 9 + 3) (.int .i64 (y + 1 + 1 + 1))).set (k * 9 + 4) (.int .i64 (y + 1 + 1 + 1 + 1))).set (k * 9 + 5) (.int .i64 (y + 1 + 1 + 1 + 1 + 1))).set (k * 9 + 6) (.string (mti (y + 1 + 1 + 1 + 1 + 1 + 1)))).set (k * 9 + 7) (.string (mti (y + 1 + 1 + 1 + 1 + 1 + 1 + 1)))).set (k * 9 + 8) (.int .i64 (y + 1 + 1 + 1 + 1 + 1 + 1 + 1 + 1)))) := ((RW2.stored (k * 9 + 7) _).1.stored (k * 9 + 8) _).1
        have GX2 : Hid (w.grownBy ((w2.setCell ⟨g, k * 9 + 7, none⟩ (.string (mti (y + 1 + 1 + 1 + 1 + 1 + 1 + 1)))).setCell ⟨g, k * 9 + 8, none⟩ (.int .i64 (y + 1 + 1 + 1 + 1 + 1 + 1 + 1 + 1))) (some g)) := (grown_setCell (grown_setCell GW2.out _ _) _ _)
        have RE : Hid (∃ xs, ((w2.setCell ⟨g, k * 9 + 7, none⟩ (.string (mti (y + 1 + 1 + 1 + 1 + 1 + 1 + 1)))).setCell ⟨g, k * 9 + 8, none⟩ (.int .i64 (y + 1 + 1 + 1 + 1 + 1 + 1 + 1 + 1))).ownsRow base 60 9 (.slice (some ⟨g, 0, none⟩) n c) n xs ∧ Good xs M (k + 1)) := ⟨_, RX2.out, NX.out⟩
        clear RW2
        go_wp2_with fail
        go_roundw
        case rel => exact ⟨k + 1, by omega, by go_num, by congr 1; have := HY.out; omega, RE, GX2⟩
        case measure => simp [intOf]; omega
      · have e : k = n := by omega
        subst e
        have RE : Hid (∃ xs, wr.ownsRow base 60 9 (.slice (some ⟨g, 0, none⟩) k c) k xs ∧ Good xs M k) := R
        have j1 : ¬ (k : Int) < (k : Int) := by omega
        clear R
        go_wp2_with fail
        go_ret
        exact ⟨rfl, RE.out, GR.out⟩
end Go.Proofs.Ytmbhlmpdkkjedaa.Ch
