/- Unwaves: model, program, what is refused; the law. -/
import Derived.Test.YtgnnmepjdmcecaaWv
namespace Go.Proofs.Ytgnnmepjdmcecaa.Wv
open Go.ChangeShapes Go.WideShapes Go.ChangeAt Go.RowKit
open Go.Proofs.Ytgnnmepjdmcecaa.Flt Go.Proofs.Ytgnnmepjdmcecaa.Wa Go.Proofs.Ytgnnmepjdmcecaa.Pr Go.Proofs.Ytgnnmepjdmcecaa.Wl Go.Proofs.Ytgnnmepjdmcecaa.Lg

attribute [local go_sem] Flt.run_store_float
theorem hQ (x y : Nat) (w : World) : (binOp .quo 27 (.float .f64 x) (.float .f64 y)).run Try.prog w = .ok (.float .f64 (opB .quo x y w)) (w.drewN (opD .quo x y)) := run_op Try.prog .quo arQuo 32 x y w
def uf (L : Pr.Ls) (k : Nat) : Nat × Nat := (opF .quo (wf L 1 L.length k).1 (cn (floatOfInt .f64 (L.length : Int))), opF .quo (wf L 1 L.length k).2 (cn (floatOfInt .f64 (L.length : Int))))
theorem set_at {D : Pr.Ls} {z : Nat × Nat} {i k : Nat} (hk : k < D.length) : (D.set k z).getD i (0, 0) = if i = k then z else D.getD i (0, 0) := by
  simp only [List.getD_eq_getElem?_getD, List.getElem?_set]
  by_cases e : k = i
  · subst e; simp [hk]
  · have e' : ¬ i = k := fun h => e h.symm
    simp [e, e']
def mx (f h : Nat → Nat × Nat) (k i : Nat) : Nat × Nat := if i < k then f i else h i
theorem mx_lt {f h : Nat → Nat × Nat} {k i : Nat} (e : i < k) : mx f h k i = f i := if_pos e
theorem mx_ge {f h : Nat → Nat × Nat} {k i : Nat} (e : ¬ i < k) : mx f h k i = h i := if_neg e
/- a row of which the first are divided already -/
def Mix (w : World) (base : Nat) (v : Value) (n : Nat) (f h : Nat → Nat × Nat) (k : Nat) : Prop := ∃ xs, ∃ D : Pr.Ls, w.ownsRow base 29 2 v n xs ∧ Pr.Good xs D n ∧ Wl.Tells D (mx f h k) n
theorem Mix.start {w : World} {base : Nat} {v : Value} {n : Nat} {f h : Nat → Nat × Nat} {C : Pr.Ls} (T : Wl.Tells C h n) (R : Pr.Row w base v C) : Mix w base v n f h 0 := by
  obtain ⟨xs, O, G⟩ := R
  rw [T.1] at O G
  exact ⟨xs, C, O, G, T.1, fun i hi => by rw [mx_ge (by omega)]; exact T.2 i hi⟩
theorem Mix.row {w : World} {base : Nat} {v : Value} {n : Nat} {f h : Nat → Nat × Nat} (M : Mix w base v n f h n) : ∃ C, Wl.Tells C f n ∧ Pr.Row w base v C := by
  obtain ⟨xs, D, O, G, T⟩ := M
  refine ⟨D, ⟨T.1, fun i hi => ?_⟩, xs, by rw [T.1]; exact O, by rw [T.1]; exact G⟩
  have := T.2 i hi
  rw [mx_lt hi] at this
  exact this
theorem Mix.on {w w' : World} {base : Nat} {v : Value} {n : Nat} {f h : Nat → Nat × Nat} {k : Nat} (M : Mix w base v n f h k) (hb : Below w.heap.size w w') : Mix w' base v n f h k := by
  obtain ⟨xs, D, O, G, T⟩ := M
  exact ⟨xs, D, Pr.row_below O hb, G, T⟩
theorem Mix.step {w : World} {base g n cap : Nat} {f h : Nat → Nat × Nat} {k : Nat} {z1 z2 : Nat} (M : Mix w base (.slice (some ⟨g, 0, none⟩) n cap) n f h k) (hk : k < n) (h1 : cn z1 = (f k).1) (h2 : cn z2 = (f k).2) :
    Mix ((w.setCell ⟨g, k * 2, none⟩ (.float .f64 z1)).setCell ⟨g, k * 2 + 1, none⟩ (.float .f64 z2)) base (.slice (some ⟨g, 0, none⟩) n cap) n f h (k + 1) := by
  obtain ⟨xs, D, R, G, T⟩ := M
  have lx : xs.length = n * 2 := R.1
  have hD : k < D.length := by rw [T.1]; exact hk
  refine ⟨(xs.set (k * 2) (.float .f64 z1)).set (k * 2 + 1) (.float .f64 z2), D.set k (z1, z2), ((R.stored (k * 2) _).1.stored (k * 2 + 1) _).1, ?_, ?_, ?_⟩
  · intro i hi
    obtain ⟨a0, a1⟩ := G i hi
    unfold Pr.c0 Pr.c1 at *
    rw [set_at hD]
    by_cases e : i = k
    · subst e
      rw [if_pos rfl]
      refine ⟨?_, ?_⟩
      · rw [List.getElem?_set_ne (by omega), List.getElem?_set_self (by omega)]
      · rw [List.getElem?_set_self (by rw [List.length_set]; omega)]
    · rw [if_neg e]
      refine ⟨?_, ?_⟩
      · rw [List.getElem?_set_ne (by omega), List.getElem?_set_ne (by omega)]; exact a0
      · rw [List.getElem?_set_ne (by omega), List.getElem?_set_ne (by omega)]; exact a1
  · rw [List.length_set]; exact T.1
  · intro i hi
    have t := T.2 i hi
    unfold Pr.c0 Pr.c1 at *
    rw [set_at hD]
    by_cases e : i = k
    · subst e
      rw [if_pos rfl, mx_lt (by omega)]
      exact ⟨h1, h2⟩
    · rw [if_neg e]
      by_cases e2 : i < k
      · rw [mx_lt e2] at t
        rw [mx_lt (by omega)]
        exact t
      · rw [mx_ge e2] at t
        rw [mx_ge (by omega)]
        exact t
theorem Mix.cells {w : World} {base g n cap : Nat} {f h : Nat → Nat × Nat} {k : Nat} (M : Mix w base (.slice (some ⟨g, 0, none⟩) n cap) n f h k) (hk : k < n) : ∃ a c : Nat, w.cell? ⟨g, k * 2, none⟩ = some (.float .f64 a) ∧ w.cell? ⟨g, k * 2 + 1, none⟩ = some (.float .f64 c) ∧ w.frozen? ⟨g, k * 2, none⟩ = false ∧ w.frozen? ⟨g, k * 2 + 1, none⟩ = false ∧ g < w.heap.size ∧ base ≤ g ∧ cn a = (h k).1 ∧ cn c = (h k).2 := by
  obtain ⟨xs, D, R, G, T⟩ := M
  have lx : xs.length = n * 2 := R.1
  obtain ⟨g0, g1⟩ := G k hk
  have t := T.2 k hk
  rw [mx_ge (Nat.lt_irrefl _)] at t
  have gl := R.lt g rfl
  exact ⟨_, _, by rw [R.cellAt (k * 2) (by omega)]; exact g0, by rw [R.cellAt (k * 2 + 1) (by omega)]; exact g1, R.frozenAt _, R.frozenAt _, gl.2, gl.1, t.1, t.2⟩
theorem row_at {w : World} {base : Nat} {v : Value} {C : Pr.Ls} (h : Pr.Row w base v C) (h0 : 0 < C.length) : ∃ g cap, v = .slice (some ⟨g, 0, none⟩) C.length cap ∧ base ≤ g := by
  obtain ⟨xs, O, G⟩ := h
  have := O.lt
  rcases Pr.row_cases O with ⟨hn, _⟩ | ⟨g', cap, e, _, h2, _, _⟩
  · omega
  · exact ⟨g', cap, e, (O.lt g' (by rw [e]; rfl)).1⟩

set_option maxRecDepth 20000 in
set_option maxHeartbeats 2000000 in
theorem iun_yes (L : Pr.Ls) (v : Value) (w : World) (hL : Pr.Reads w v L) (hlg : Lg.lg L.length = true) :
    Calls Try.prog 8 #[v] w fun e w' => ∃ v' C, e = .returned v' ∧ Wl.Tells C (uf L) L.length ∧ Pr.Row w' w.heap.size v' C ∧ Below w.heap.size w w' := by
  obtain ⟨n1, n36⟩ := Lg.lg_le hlg
  have S : Hid (Calls Try.prog 16 #[v, .int .i64 1] w fun e w' => ∃ v' C, e = .returned v' ∧ Wl.Tells C (wf L 1 L.length) L.length ∧ Pr.Row w' w.heap.size v' C ∧ Below w.heap.size w w' ∧ ∃ g, v' = .slice (some ⟨g, 0, none⟩) L.length L.length) := isums L 1 v w hL hlg (Or.inl rfl)
  have HU : Hid (∀ k, uf L k = (opF .quo (wf L 1 L.length k).1 (cn (floatOfInt .f64 (L.length : Int))), opF .quo (wf L 1 L.length k).2 (cn (floatOfInt .f64 (L.length : Int))))) := fun k => rfl
  obtain ⟨a, cap, rfl⟩ := hL.form
  have kQ := hQ
  generalize wf L 1 L.length = h at *
  generalize uf L = f at *
  clear hL hlg
  generalize L.length = n at *
  go_enter Try.func8, Try.ntmps8
  go_wp2_with fail
  refine S.out.mono ?_
  rintro e w1 ⟨v', C, rfl, t, r, hb, g, rfl⟩
  have M1 : Hid (Mix w1 w.heap.size (.slice (some ⟨g, 0, none⟩) n n) n f h 0) := Mix.start t r
  have B1 : Hid (Below w.heap.size w w1) := hb
  clear t r hb S
  go_wp2_with fail
  generalize floatOfInt .f64 (n : Int) = nb at *
  go_loopw [14] (fun i wr => ∃ k : Nat, k ≤ n ∧ i = .int .i64 k ∧ Hid (Mix wr w.heap.size (.slice (some ⟨g, 0, none⟩) n n) n f h k) ∧ Hid (Below w.heap.size w wr)) (fun i _ => n - (intOf i).toNat)
  case atStart => exact ⟨0, by omega, rfl, M1, B1⟩
  case round =>
    obtain ⟨k, hk, rfl, MR, BR⟩ := hrel
    by_cases hlt : k < n
    · obtain ⟨a, c, q0, q1, f0, f1, gl, gb, ea, ec⟩ := MR.out.cells hlt
      have i1 : (0 : Int) ≤ (k : Int) := by omega
      have i2 : (k : Int) < (n : Int) := by omega
      have EA : Hid (cn a = (h k).1 ∧ cn c = (h k).2) := ⟨ea, ec⟩
      have GB : Hid (w.heap.size ≤ g) := gb
      clear ea ec gb
      go_wp2_with fail
      go_roundw
      case rel =>
        refine ⟨k + 1, by omega, by go_num, ?_, ?_⟩
        · refine Mix.step ?_ hlt ?_ ?_
          · exact MR.out.on (below_drewN ((Below.refl _ _).alloc (Nat.le_refl _) _) _)
          · rw [cn_op, EA.out.1, HU.out]
          · rw [cn_op, EA.out.2, HU.out]
        · exact ((below_drewN (BR.out.alloc BR.out.size _) _).setCell (p := ⟨g, k * 2, none⟩) GB.out _).setCell (p := ⟨g, k * 2 + 1, none⟩) GB.out _
      case measure => simp [intOf]; omega
    · have hkn : k = n := by omega
      subst hkn
      obtain ⟨D, td, rd⟩ := MR.out.row
      have TD : Hid (Wl.Tells D f k) := td
      have RD : Hid (Pr.Row wr w.heap.size (.slice (some ⟨g, 0, none⟩) k k) D) := rd
      clear td rd
      go_wp2_with fail
      go_ret
      exact ⟨_, D, rfl, TD.out, RD.out, BR.out⟩

set_option maxHeartbeats 1000000 in
theorem iun_no (L : Pr.Ls) (v : Value) (w : World) (hL : Pr.Reads w v L) (hlg : Lg.lg L.length = false) :
    Calls Try.prog 8 #[v] w fun e w' => ∃ v' C, e = .returned v' ∧ Wl.Tells C (uf L) 0 ∧ Pr.Row w' w.heap.size v' C ∧ Below w.heap.size w w' := by
  have S : Hid (Calls Try.prog 16 #[v, .int .i64 1] w fun e w' => e = .returned (.slice none 0 0) ∧ w' = w) := isums_no L 1 v w hL hlg
  have T0 : Hid (Wl.Tells [] (uf L) 0) := tells_nil _
  have R0 : Hid (Pr.Row w w.heap.size (.slice none 0 0) []) := row_nil _ _
  obtain ⟨a, cap, rfl⟩ := hL.form
  clear hL hlg
  generalize uf L = f at *
  generalize L.length = n at *
  go_enter Try.func8, Try.ntmps8
  go_wp2_with fail
  refine S.out.mono ?_
  rintro e w0 ⟨rfl, hw⟩
  have hw' := hw.symm
  subst hw'
  go_wp2_with fail
  go_loop [14] (fun i => i = .int .i64 0) (fun _ => 0)
  case atStart => rfl
  case round =>
    subst hrel
    go_wp2_with fail
    go_ret
    first | exact ⟨_, [], rfl, T0.out, R0.out, Below.refl _ _⟩ | exact ⟨_, rfl, [], T0.out, R0.out, Below.refl _ _⟩

end Go.Proofs.Ytgnnmepjdmcecaa.Wv
