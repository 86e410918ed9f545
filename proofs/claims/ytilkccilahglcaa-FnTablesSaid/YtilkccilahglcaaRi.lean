/- Reliable: the program; the law. -/
import Derived.Test.YtilkccilahglcaaRm
namespace Go.Proofs.Ytilkccilahglcaa.Rl
open Go.ChangeShapes Go.WideShapes Go.ChangeAt Go.RowKit
open Go.Proofs.Ytilkccilahglcaa.Al Go.Proofs.Ytilkccilahglcaa.Br

def prg (L : Pb.Ls) (i : Nat) : Bn.Ls := (List.range 11).map fun k => (cn (bC L k) i, cn (bH L k) i)
theorem prg_len (L : Pb.Ls) (i : Nat) : (prg L i).length = 11 := by simp [prg]
theorem prg_0 (L : Pb.Ls) (i k : Nat) (h : k < 11) : Bn.c0 (prg L i) k = cn (bC L k) i := by simp [Bn.c0, prg, List.getD_eq_getElem?_getD, h]
theorem prg_1 (L : Pb.Ls) (i k : Nat) (h : k < 11) : Bn.c1 (prg L i) k = cn (bH L k) i := by simp [Bn.c1, prg, List.getD_eq_getElem?_getD, h]
theorem relL_map (L : Pb.Ls) (k : Nat) : relL L k = (List.range k).map (be L) := by
  induction k with
  | zero => rfl
  | succ k ih => unfold relL; rw [ih, List.range_succ]; simp
theorem prg_all (L : Pb.Ls) : prg L L.length = relL L 11 := by rw [relL_map]; rfl
theorem good_zero (L : Pb.Ls) : Bn.Good ((madeCells (Value.agg #[.int .i64 0, .int .i64 0]).cells (11 * 2)).toList) (prg L 0) 11 := by
  intro i hi
  rw [prg_0 L 0 i hi, prg_1 L 0 i hi]
  show _ ∧ _
  have e0 : cn (bC L i) 0 = 0 := rfl
  have e1 : cn (bH L i) 0 = 0 := rfl
  rw [e0, e1]
  have hc : ∀ j, j < 22 → (madeCells (Value.agg #[.int .i64 0, .int .i64 0]).cells (11 * 2)).toList[j]? = some (.int .i64 0) := by
    intro j hj
    rcases Nat.mod_two_eq_zero_or_one j with e | e <;> simp [madeCells, Value.cells, hj, e]
  exact ⟨hc _ (by omega), hc _ (by omega)⟩
theorem good_one {L : Pb.Ls} {xs : List Value} {i q : Nat} (G : Bn.Good xs (prg L i) 11) (hl : xs.length = 22) (hq : Pb.c0 L i / 10 = (q : Int)) (h11 : q < 11) (hh : Pb.c1 L i = false) : Bn.Good (xs.set (q * 2) (.int .i64 (cn (bC L q) i + 1))) (prg L (i + 1)) 11 := by
  intro k hk
  rw [prg_0 L (i + 1) k hk, prg_1 L (i + 1) k hk]
  obtain ⟨g0, g1⟩ := G k hk
  rw [prg_0 L i k hk] at g0
  rw [prg_1 L i k hk] at g1
  have e1 : cn (bH L k) (i + 1) = cn (bH L k) i := cn_no (by unfold bH; rw [hh]; simp)
  rw [e1]
  by_cases e : k = q
  · subst e
    have e0 : cn (bC L k) (i + 1) = cn (bC L k) i + 1 := cn_yes (by unfold bC; exact decide_eq_true hq)
    rw [e0]
    exact ⟨by rw [List.getElem?_set_self (by omega)], by rw [List.getElem?_set_ne (by omega)]; exact g1⟩
  · have e0 : cn (bC L k) (i + 1) = cn (bC L k) i := cn_no (by unfold bC; exact decide_eq_false (by omega))
    rw [e0]
    exact ⟨by rw [List.getElem?_set_ne (by omega)]; exact g0, by rw [List.getElem?_set_ne (by omega)]; exact g1⟩
theorem good_two {L : Pb.Ls} {xs : List Value} {i q : Nat} (G : Bn.Good xs (prg L i) 11) (hl : xs.length = 22) (hq : Pb.c0 L i / 10 = (q : Int)) (h11 : q < 11) (hh : Pb.c1 L i = true) : Bn.Good ((xs.set (q * 2) (.int .i64 (cn (bC L q) i + 1))).set (q * 2 + 1) (.int .i64 (cn (bH L q) i + 1))) (prg L (i + 1)) 11 := by
  intro k hk
  rw [prg_0 L (i + 1) k hk, prg_1 L (i + 1) k hk]
  obtain ⟨g0, g1⟩ := G k hk
  rw [prg_0 L i k hk] at g0
  rw [prg_1 L i k hk] at g1
  by_cases e : k = q
  · subst e
    have e0 : cn (bC L k) (i + 1) = cn (bC L k) i + 1 := cn_yes (by unfold bC; exact decide_eq_true hq)
    have e1 : cn (bH L k) (i + 1) = cn (bH L k) i + 1 := cn_yes (by unfold bH; rw [hh, decide_eq_true hq]; rfl)
    rw [e0, e1]
    exact ⟨by rw [List.getElem?_set_ne (by omega), List.getElem?_set_self (by omega)], by rw [List.getElem?_set_self (by simp; omega)]⟩
  · have hn : decide (Pb.c0 L i / 10 = (k : Int)) = false := decide_eq_false (by omega)
    have e0 : cn (bC L k) (i + 1) = cn (bC L k) i := cn_no (by unfold bC; exact hn)
    have e1 : cn (bH L k) (i + 1) = cn (bH L k) i := cn_no (by unfold bH; rw [hn]; rfl)
    rw [e0, e1]
    exact ⟨by rw [List.getElem?_set_ne (by omega), List.getElem?_set_ne (by omega)]; exact g0, by rw [List.getElem?_set_ne (by omega), List.getElem?_set_ne (by omega)]; exact g1⟩

set_option maxHeartbeats 1000000 in
theorem irel_any (w : World) (v : Value) (L : Pb.Ls) (h : Pb.Reads w v L) : Calls Try.prog 6 #[v] w fun e w' => ∃ v', e = .returned v' ∧ Bn.Row w' w.heap.size v' (rel L) ∧ Below w.heap.size w w' := by
  have C : Hid (Calls Try.prog 13 #[v] w fun e w' => e = .returned (.bool (okT L)) ∧ Below w.heap.size w w') := iok_any L v w h
  unfold rel
  cases ho : okT L
  · rw [ho] at C
    have e0 : (if false = true then relL L 11 else []) = [] := rfl
    rw [e0]
    clear ho e0
    obtain ⟨a, cap, rfl⟩ := h.form
    clear h
    have RE : Hid (∀ w' : World, Bn.Row w' w.heap.size (.slice none 0 0) []) := fun w' => ⟨[], ⟨rfl, .inl ⟨rfl, rfl⟩⟩, fun i hi => absurd hi (by simp)⟩
    generalize L.length = n at *
    go_enter Try.func6, Try.ntmps6
    go_wp2_with fail
    refine C.out.mono ?_
    rintro e w1 ⟨rfl, hb⟩
    have B1 : Hid (Below w.heap.size w w1) := hb
    clear hb
    go_wp2_with fail
    go_ret
    exact ⟨_, rfl, RE.out _, B1.out⟩
  · have r := (okT_iff L).mp ho
    rw [ho] at C
    have e0 : (if true = true then relL L 11 else []) = relL L 11 := rfl
    rw [e0, ← prg_all]
    obtain ⟨b, o, hcell, hvv⟩ := reads_at h
    obtain ⟨a, cap, rfl⟩ := h.form
    have HB : Hid (0 < L.length → b < w.heap.size) := fun hi => (hvv hi).1
    have HC : Hid (∀ i, i < L.length → ∀ w', Below w.heap.size w w' → Pb.Cs w' b o L i) := fun i hi w' hb => (hcell i hi).below hb (HB.out (by omega))
    have HA : Hid (0 < L.length → a = some ⟨b, o, none⟩) := fun hi => by
      obtain ⟨h1, c, h2⟩ := hvv hi
      simp at h2
      exact h2.1
    have RB : Hid (∀ j, j < L.length → 0 ≤ Pb.c0 L j ∧ Pb.c0 L j ≤ 100) := r.2
    have n2 := r.1
    obtain ⟨i0, hi, hz0, hz1, hz2⟩ := info_parts Try.infoE
    obtain ⟨n, hn⟩ : ∃ n, n = L.length := ⟨_, rfl⟩
    rw [← hn] at C HC HA HB RB n2 ⊢
    clear h hcell hvv ho e0 r hn
    have GZ : Hid (Bn.Good ((madeCells (Value.agg #[.int .i64 0, .int .i64 0]).cells (11 * 2)).toList) (prg L 0) 11) := good_zero L
    go_enter Try.func6, Try.ntmps6
    go_wp2_with fail
    refine C.out.mono ?_
    rintro e w1 ⟨rfl, hb⟩
    have B1 : Hid (Below w.heap.size w w1) := hb
    have LB : Hid (w.heap.size ≤ w1.heap.size) := hb.size
    clear hb
    go_wp2_with (at_make; refine wpList_make_full _ rfl _ _ 27 rfl w.heap.size 36 i0 (.agg #[.int .i64 0, .int .i64 0]) 2 Try.underlying27 hi hz0 hz1 .i64 .i64 (11 : Int) (11 : Int) 11 rfl rfl rfl rfl (by rw [hz2]; omega) (by unfold maxLen; omega) LB.out ?_; intro w4 hown hgrow)
    have R0 : Hid (∃ xs, w4.ownsRow w.heap.size 36 2 (.slice (some ⟨w1.heap.size, 0, none⟩) 11 11) 11 xs ∧ Bn.Good xs (prg L 0) 11) := ⟨_, hown, GZ.out⟩
    have B4 : Hid (Below w.heap.size w w4) := B1.out.trans (((Below.refl _ _).grown hgrow (Nat.le_refl _) (fun k hk => by cases hk) : Below w1.heap.size w1 w4).mono LB.out)
    clear hown hgrow GZ
    go_loopw [13] (fun i wr => ∃ k : Nat, k ≤ n ∧ i = .int .i64 k ∧ Hid (∃ xs, wr.ownsRow w.heap.size 36 2 (.slice (some ⟨w1.heap.size, 0, none⟩) 11 11) 11 xs ∧ Bn.Good xs (prg L k) 11) ∧ Hid (Below w.heap.size w wr)) (fun i _ => n - (intOf i).toNat)
    case atStart => exact ⟨0, Nat.zero_le _, rfl, R0, B4⟩
    case round =>
      obtain ⟨k, hk, rfl, R, BB⟩ := hrel
      by_cases hlt : k < n
      · have hx := HA.out (by omega)
        subst hx
        obtain ⟨q0, q1⟩ := HC.out k hlt wr BB.out
        have i1 : (0 : Int) ≤ (k : Int) := by omega
        have i2 : (k : Int) < (n : Int) := by omega
        have z1 := RB.out k hlt
        obtain ⟨xs, O, G⟩ := R.out
        have lx : xs.length = 22 := O.1
        have gl : w1.heap.size < wr.heap.size := (O.lt w1.heap.size rfl).2
        have gn : ¬ w1.heap.size = wr.heap.size := by omega
        obtain ⟨q, hq⟩ : ∃ q : Nat, Pb.c0 L k / 10 = (q : Int) := ⟨(Pb.c0 L k / 10).toNat, by omega⟩
        have h11 : q < 11 := by omega
        have j1 : (0 : Int) ≤ (q : Int) := by omega
        have j2 : (q : Int) < 11 := by omega
        have eq1 : (Pb.c0 L k).tdiv 10 = (q : Int) := by rw [Int.tdiv_eq_ediv_of_nonneg z1.1]; exact hq
        obtain ⟨g0, g1⟩ := G q h11
        rw [prg_0 L k q h11] at g0
        rw [prg_1 L k q h11] at g1
        have p0 : wr.cell? ⟨w1.heap.size, q * 2, none⟩ = some (.int .i64 (cn (bC L q) k)) := by rw [O.cellAt (q * 2) (by omega)]; exact g0
        have p1 : wr.cell? ⟨w1.heap.size, q * 2 + 1, none⟩ = some (.int .i64 (cn (bH L q) k)) := by rw [O.cellAt (q * 2 + 1) (by omega)]; exact g1
        have f0 : wr.frozen? ⟨w1.heap.size, q * 2, none⟩ = false := O.frozenAt _
        have f1 : wr.frozen? ⟨w1.heap.size, q * 2 + 1, none⟩ = false := O.frozenAt _
        have y0 := cn_bd (bC L q) k
        have y1 := cn_bd (bH L q) k
        have k1000 : k ≤ 1000 := by omega
        cases hh : Pb.c1 L k
        · have GN : Hid (Bn.Good (xs.set (q * 2) (.int .i64 (cn (bC L q) k + 1))) (prg L (k + 1)) 11) := good_one G lx hq h11 hh
          have RN : Hid (∀ A : Obj, ((wr.setCell ⟨w1.heap.size, q * 2, none⟩ (.int .i64 (cn (bC L q) k + 1))).alloc A).ownsRow w.heap.size 36 2 (.slice (some ⟨w1.heap.size, 0, none⟩) 11 11) 11 (xs.set (q * 2) (.int .i64 (cn (bC L q) k + 1)))) := fun A => (O.stored (q * 2) _).1.alloc A
          have BN : Hid (∀ A : Obj, Below w.heap.size w ((wr.setCell ⟨w1.heap.size, q * 2, none⟩ (.int .i64 (cn (bC L q) k + 1))).alloc A)) := fun A => (BB.out.setCell (p := ⟨w1.heap.size, q * 2, none⟩) LB.out _).alloc (by have := BB.out.size; simpa using this) A
          rw [hh] at q1
          clear hh G O R g0 g1 hq lx
          generalize cn (bC L q) k = x0 at *
          generalize cn (bH L q) k = x1 at *
          generalize Pb.c0 L k = z at *
          go_wp2_with fail
          go_roundw
          case rel => exact ⟨k + 1, by omega, by go_num, ⟨_, RN.out _, GN.out⟩, BN.out _⟩
          case measure => simp [intOf]; omega
        · have GN : Hid (Bn.Good ((xs.set (q * 2) (.int .i64 (cn (bC L q) k + 1))).set (q * 2 + 1) (.int .i64 (cn (bH L q) k + 1))) (prg L (k + 1)) 11) := good_two G lx hq h11 hh
          have RN : Hid (∀ A : Obj, (((wr.setCell ⟨w1.heap.size, q * 2, none⟩ (.int .i64 (cn (bC L q) k + 1))).setCell ⟨w1.heap.size, q * 2 + 1, none⟩ (.int .i64 (cn (bH L q) k + 1))).alloc A).ownsRow w.heap.size 36 2 (.slice (some ⟨w1.heap.size, 0, none⟩) 11 11) 11 ((xs.set (q * 2) (.int .i64 (cn (bC L q) k + 1))).set (q * 2 + 1) (.int .i64 (cn (bH L q) k + 1)))) := fun A => ((O.stored (q * 2) _).1.stored (q * 2 + 1) _).1.alloc A
          have BN : Hid (∀ A : Obj, Below w.heap.size w (((wr.setCell ⟨w1.heap.size, q * 2, none⟩ (.int .i64 (cn (bC L q) k + 1))).setCell ⟨w1.heap.size, q * 2 + 1, none⟩ (.int .i64 (cn (bH L q) k + 1))).alloc A)) := fun A => ((BB.out.setCell (p := ⟨w1.heap.size, q * 2, none⟩) LB.out _).setCell (p := ⟨w1.heap.size, q * 2 + 1, none⟩) LB.out _).alloc (by have := BB.out.size; simpa using this) A
          rw [hh] at q1
          clear hh G O R g0 g1 hq lx
          generalize cn (bC L q) k = x0 at *
          generalize cn (bH L q) k = x1 at *
          generalize Pb.c0 L k = z at *
          go_wp2_with fail
          go_roundw
          case rel => exact ⟨k + 1, by omega, by go_num, ⟨_, RN.out _, GN.out⟩, BN.out _⟩
          case measure => simp [intOf]; omega
      · have hkn : k = n := by omega
        subst hkn
        have RE : Hid (Bn.Row wr w.heap.size (.slice (some ⟨w1.heap.size, 0, none⟩) 11 11) (prg L k)) := (by
          show Bn.Row _ _ _ _
          unfold Bn.Row
          rw [prg_len]
          exact R.out)
        clear R
        go_wp2_with fail
        go_ret
        exact ⟨_, rfl, RE.out, BB.out⟩

end Go.Proofs.Ytilkccilahglcaa.Rl
