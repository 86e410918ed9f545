/- Runs (a suite, a time, jobs): compared, marked, held. -/
import Derived.Test.YtpdmfhbpedimaaaTh
import Derived.Test.YtpdmfhbpedimaaaJbW
namespace Go.Proofs.Ytpdmfhbpedimaaa.Ru
open Go.ChangeShapes Go.WideShapes Go.ChangeAt Go.RowKit
open Go.Proofs.Ytpdmfhbpedimaaa.Lists Go.Proofs.Ytpdmfhbpedimaaa.Tm

abbrev rv (r x : Value) (n : Int) (j : Value) : Value := .agg #[r, x, .int .i64 n, j]
def RR (w : World) (r x j : Value) (R : Tk.Ls) (X : List Int) (J : Jb.Ls) : Prop := Tk.Reads w r R ∧ Lists.Reads w x X ∧ Jb.Reads w j J
theorem RR.on {w w' : World} {r x j : Value} {R : Tk.Ls} {X : List Int} {J : Jb.Ls} (h : RR w r x j R X J) (hb : Below w.heap.size w w') : RR w' r x j R X J := ⟨h.1.on hb, h.2.1.on hb, h.2.2.on hb⟩
/-- A suite whose lists lie apart. -/
def SO (w : World) (base : Nat) (r x : Value) (xs : List Value) (R : Tk.Ls) (X : List Int) : Prop := Own w base r xs R ∧ w.ownsRow base 2 1 x X.length (ints X) ∧ ∀ i a, i < R.length → bk xs i = some a → x.ownBlock ≠ some a
def SB (r x : Value) (xs : List Value) (n : Nat) (g : Nat) : Prop := Bs r xs n g ∨ x.ownBlock = some g
theorem SO.reads {w : World} {base : Nat} {r x : Value} {xs : List Value} {R : Tk.Ls} {X : List Int} (h : SO w base r x xs R X) : Tk.Reads w r R ∧ Lists.Reads w x X := ⟨h.1.row.reads, Lists.reads_row h.2.1⟩
theorem SO.kb {S : Nat → Prop} {w w' : World} {base : Nat} {r x : Value} {xs : List Value} {R : Tk.Ls} {X : List Int} (h : SO w base r x xs R X) (hb : KB S w w') (hn : ∀ g, SB r x xs R.length g → ¬ S g) : SO w' base r x xs R X :=
  ⟨h.1.kb hb (fun g hg => hn g (.inl hg)), row_kb h.2.1 hb (fun g hg => hn g (.inr hg)), h.2.2⟩
theorem SO.on {w w' : World} {base : Nat} {r x : Value} {xs : List Value} {R : Tk.Ls} {X : List Int} (h : SO w base r x xs R X) (hb : Below w.heap.size w w') : SO w' base r x xs R X := h.kb (S := fun _ => False) (KB.of_below hb) (fun _ _ y => y)
theorem SO.bs {w : World} {base : Nat} {r x : Value} {xs : List Value} {R : Tk.Ls} {X : List Int} (h : SO w base r x xs R X) (g : Nat) (hg : SB r x xs R.length g) : base ≤ g ∧ g < w.heap.size := by
  rcases hg with hg | hg
  · exact h.1.bs g hg
  · exact h.2.1.lt g hg
/-- A run whose lists lie apart. -/
def RO (w : World) (base : Nat) (r x j : Value) (xs : List Value) (R : Tk.Ls) (X : List Int) (J : Jb.Ls) : Prop := SO w base r x xs R X ∧ Jb.Row w base j J
def RB (r x j : Value) (xs : List Value) (n : Nat) (g : Nat) : Prop := SB r x xs n g ∨ j.ownBlock = some g
theorem jrow_kb {S : Nat → Prop} {w w' : World} {base : Nat} {j : Value} {J : Jb.Ls} (h : Jb.Row w base j J) (hb : KB S w w') (hn : ∀ g, j.ownBlock = some g → ¬ S g) : Jb.Row w' base j J := by
  obtain ⟨ys, h1, h2⟩ := h
  exact ⟨ys, row_kb h1 hb hn, h2⟩
theorem RO.kb {S : Nat → Prop} {w w' : World} {base : Nat} {r x j : Value} {xs : List Value} {R : Tk.Ls} {X : List Int} {J : Jb.Ls} (h : RO w base r x j xs R X J) (hb : KB S w w') (hn : ∀ g, RB r x j xs R.length g → ¬ S g) : RO w' base r x j xs R X J :=
  ⟨h.1.kb hb (fun g hg => hn g (.inl hg)), jrow_kb h.2 hb (fun g hg => hn g (.inr hg))⟩
theorem RO.on {w w' : World} {base : Nat} {r x j : Value} {xs : List Value} {R : Tk.Ls} {X : List Int} {J : Jb.Ls} (h : RO w base r x j xs R X J) (hb : Below w.heap.size w w') : RO w' base r x j xs R X J := h.kb (S := fun _ => False) (KB.of_below hb) (fun _ _ y => y)
theorem RO.bs {w : World} {base : Nat} {r x j : Value} {xs : List Value} {R : Tk.Ls} {X : List Int} {J : Jb.Ls} (h : RO w base r x j xs R X J) (g : Nat) (hg : RB r x j xs R.length g) : base ≤ g ∧ g < w.heap.size := by
  rcases hg with hg | hg
  · exact h.1.bs g hg
  · obtain ⟨ys, h1, _⟩ := h.2
    exact h1.lt g hg
theorem RO.reads {w : World} {base : Nat} {r x j : Value} {xs : List Value} {R : Tk.Ls} {X : List Int} {J : Jb.Ls} (h : RO w base r x j xs R X J) : RR w r x j R X J := ⟨h.1.reads.1, h.1.reads.2, h.2.reads⟩
def Box (w : World) (b : Nat) (v0 v1 v2 v3 : Value) : Prop := w.cell? ⟨b, 0, none⟩ = some v0 ∧ w.cell? ⟨b, 1, none⟩ = some v1 ∧ w.cell? ⟨b, 2, none⟩ = some v2 ∧ w.cell? ⟨b, 3, none⟩ = some v3
theorem Box.on {w w' : World} {B b : Nat} {v0 v1 v2 v3 : Value} (h : Box w b v0 v1 v2 v3) (hb : Below B w w') (hg : b < B) : Box w' b v0 v1 v2 v3 := by
  obtain ⟨h0, h1, h2, h3⟩ := h
  exact ⟨(hb.cell (p := ⟨b, 0, none⟩) hg).trans h0, (hb.cell (p := ⟨b, 1, none⟩) hg).trans h1, (hb.cell (p := ⟨b, 2, none⟩) hg).trans h2, (hb.cell (p := ⟨b, 3, none⟩) hg).trans h3⟩
theorem cell_kb {S : Nat → Prop} {w w' : World} (hb : KB S w w') {b o : Nat} (hl : b < w.heap.size) (hn : ¬ S b) : w'.cell? ⟨b, o, none⟩ = w.cell? ⟨b, o, none⟩ := World.cell?_of_block (a := ⟨b, o, none⟩) (hb.block b hl hn)
theorem Box.kb {S : Nat → Prop} {w w' : World} {b : Nat} {v0 v1 v2 v3 : Value} (h : Box w b v0 v1 v2 v3) (hb : KB S w w') (hl : b < w.heap.size) (hn : ¬ S b) : Box w' b v0 v1 v2 v3 := by
  obtain ⟨h0, h1, h2, h3⟩ := h
  exact ⟨(cell_kb hb hl hn).trans h0, (cell_kb hb hl hn).trans h1, (cell_kb hb hl hn).trans h2, (cell_kb hb hl hn).trans h3⟩

set_option maxHeartbeats 1000000 in
theorem eq_any (R : Tk.Ls) (X : List Int) (J : Jb.Ls) (n : Int) (r1 r2 x1 x2 j1 j2 : Value) (w : World) (h1 : RR w r1 x1 j1 R X J) (h2 : RR w r2 x2 j2 R X J) :
    Calls Try.prog 12 #[rv r1 x1 n j1, rv r2 x2 n j2] w fun e w' => e = .returned (.bool true) ∧ Below w.heap.size w w' := by
  obtain ⟨w0, hw0⟩ : ∃ w0, w0 = (w.alloc (Obj.cells #[r1, x1, .int .i64 n, j1] 35)).alloc (Obj.cells #[r2, x2, .int .i64 n, j2] 35) := ⟨_, rfl⟩
  have HW0 : Hid (w0 = (w.alloc (Obj.cells #[r1, x1, .int .i64 n, j1] 35)).alloc (Obj.cells #[r2, x2, .int .i64 n, j2] 35)) := hw0
  have B0 : Hid (Below w.heap.size w w0) := (by show Below _ _ _; rw [hw0]; exact ((Below.refl _ _).alloc (Nat.le_refl _) _).alloc (by simp) _)
  have Z0 : Hid (w0.heap.size = w.heap.size + 2) := (by show _ = _; rw [hw0]; simp)
  have X1 : Hid (Box w0 w.heap.size r1 x1 (.int .i64 n) j1) := (by show Box _ _ _ _ _ _; rw [hw0]; unfold Box; simp [go_sem])
  have X2 : Hid (Box w0 (w.heap.size + 1) r2 x2 (.int .i64 n) j2) := (by show Box _ _ _ _ _ _; rw [hw0]; unfold Box; simp [go_sem])
  have E1 : Hid (Calls Try.prog 37 #[Su.pv r1 x1, Su.pv r2 x2] w0 fun e w' => e = .returned (.bool true) ∧ Below w0.heap.size w0 w') := Su.eq_any R X r1 r2 x1 x2 w0 (h1.1.on B0.out) (h2.1.on B0.out) (h1.2.1.on B0.out) (h2.2.1.on B0.out)
  have E2 : Hid (∀ w', Below w.heap.size w w' → Calls Try.prog 38 #[j1, j2] w' fun e w'' => e = .returned (.bool true) ∧ Below w'.heap.size w' w'') := fun w' hb => Jb.eq_same w' j1 j2 J (h1.2.2.on hb) (h2.2.2.on hb)
  have nn : (n != n) = false := by simp
  obtain ⟨a0, a1, a2, a3⟩ := X1.out
  obtain ⟨b0, b1, b2, b3⟩ := X2.out
  clear h1 h2 hw0
  go_enter Try.func12, Try.ntmps12
  go_wp2_with fail
  rw [← HW0.out]
  refine E1.out.mono ?_
  rintro e w3 ⟨rfl, hb⟩
  have B3 : Hid (Below w.heap.size w w3) := B0.out.trans (hb.mono B0.out.size)
  have Y1 := X1.out.on hb (by have := Z0.out; omega)
  have Y2 := X2.out.on hb (by have := Z0.out; omega)
  clear hb a0 a1 a2 a3 b0 b1 b2 b3 HW0
  obtain ⟨a0, a1, a2, a3⟩ := Y1
  obtain ⟨b0, b1, b2, b3⟩ := Y2
  go_wp2_with fail
  refine (E2.out w3 B3.out).mono ?_
  rintro e w4 ⟨rfl, hb⟩
  have B4 : Hid (Below w.heap.size w w4) := B3.out.trans (hb.mono B3.out.size)
  clear hb
  go_wp2_with fail
  go_ret
  exact ⟨rfl, B4.out⟩

set_option maxHeartbeats 1000000 in
theorem markSuite_any (w : World) (base : Nat) (r x : Value) (xs0 : List Value) (R : Tk.Ls) (X : List Int) (k0 : Int) (h : SO w base r x xs0 R X) (h0 : 0 ≤ k0) (hs : k0 + (tl R R.length : Int) ≤ 2305843009213693952) (hl : ∀ i, i < R.length → (Tk.cl R i).length ≤ 1048576) (hx : X.length ≤ 1048576) :
    Calls Try.prog 39 #[Su.pv r x, .int .i64 k0] w fun e w' => e = .returned (.int .i64 (k0 + (tl R R.length : Int) + (X.length : Int))) ∧ KB (SB r x xs0 R.length) w w' ∧ ∃ xs, SO w' base r x xs (mix k0 R R.length) (sq (k0 + (tl R R.length : Int)) X.length) ∧ ∀ i, bk xs i = bk xs0 i := by
  obtain ⟨w0, hw0⟩ : ∃ w0, w0 = w.alloc (Obj.cells #[r, x] 32) := ⟨_, rfl⟩
  have HW0 : Hid (w0 = w.alloc (Obj.cells #[r, x] 32)) := hw0
  have b0 : Below w.heap.size w w0 := by rw [hw0]; exact (Below.refl _ _).alloc (Nat.le_refl _) _
  have Z0 : Hid (w0.heap.size = w.heap.size + 1) := (by show _ = _; rw [hw0]; simp)
  have X0 : Hid (Su.Box w0 w.heap.size r x) := (by show Su.Box _ _ _ _; rw [hw0]; unfold Su.Box; simp [go_sem])
  have K0 : Hid (KB (SB r x xs0 R.length) w w0) := KB.of_below b0
  have S0 : Hid (SO w0 base r x xs0 R X) := h.on b0
  have HB : Hid (∀ g, SB r x xs0 R.length g → g < w.heap.size) := fun g hg => (h.bs g hg).2
  have C1 : Hid (Calls Try.prog 63 #[r, .int .i64 k0] w0 fun e w' => e = .returned (.int .i64 (k0 + (tl R R.length : Int))) ∧ KB (Bs r xs0 R.length) w0 w' ∧ ∃ xs, Own w' base r xs (mix k0 R R.length) ∧ ∀ i, bk xs i = bk xs0 i) := markS_any w0 base r xs0 R k0 S0.out.1 h0 (by omega) hl
  obtain ⟨ar, cr, er⟩ := h.reads.1.form
  obtain ⟨ax, cx, ex⟩ := h.reads.2.form
  obtain ⟨k1, hk1⟩ : ∃ k1 : Int, k1 = k0 + (tl R R.length : Int) := ⟨_, rfl⟩
  have k1a : 0 ≤ k1 := by omega
  have k1b : k1 ≤ 2305843009213693952 := by omega
  rw [← hk1] at C1 ⊢
  have C2 : Hid (∀ w', w'.ownsRow base 2 1 x X.length (ints X) → Calls Try.prog 15 #[x, .int .i64 k1] w' fun e w'' => e = .returned (.int .i64 (k1 + X.length)) ∧ w''.ownsRow base 2 1 x X.length (ints (sq k1 X.length)) ∧ w'.grownBy w'' x.ownBlock) := fun w' hh => Lists.markW_any w' base x X k1 k1a (by omega) (by omega) hh
  clear hk1 hs hw0 b0 h
  obtain ⟨x0, x1⟩ := X0.out
  go_enter Try.func39, Try.ntmps39
  subst er ex
  go_wp2_with fail
  rw [← HW0.out]
  refine C1.out.mono ?_
  rintro e w1 ⟨rfl, kb, xs1, o1, hb1⟩
  have K1 : Hid (KB (SB (.slice ar R.length cr) (.slice ax X.length cx) xs0 R.length) w w1) := K0.out.trans (kb.mono (fun g hg => .inl hg))
  have NB : ¬ Bs (.slice ar R.length cr) xs0 R.length w.heap.size := fun hg => by have := HB.out _ (.inl hg); omega
  have LX : Hid (w1.ownsRow base 2 1 (.slice ax X.length cx) X.length (ints X)) := row_kb S0.out.2.1 kb (fun g hg hc => by
    rcases hc with hc | ⟨i, hi, hc⟩
    · exact type_ne S0.out.2.1 S0.out.1.1 (by decide) g hg hc
    · exact S0.out.2.2 i g hi hc hg)
  have O1 : Hid (Own w1 base (.slice ar R.length cr) xs1 (mix k0 R R.length)) := o1
  have HB1 : Hid (∀ i, bk xs1 i = bk xs0 i) := hb1
  have y1 : w1.cell? ⟨w.heap.size, 1, none⟩ = some (.slice ax X.length cx) := (cell_kb kb (by have := Z0.out; omega) NB).trans X0.out.2
  clear kb o1 hb1 NB x0 x1 HW0
  go_wp2_with fail
  refine (C2.out w1 LX.out).mono ?_
  rintro e w2 ⟨rfl, r2, g2⟩
  have K2 : Hid (KB (SB (.slice ar R.length cr) (.slice ax X.length cx) xs0 R.length) w w2) := K1.out.trans (KB.of_grown g2 (fun g hg => .inr hg))
  have O2 : Hid (SO w2 base (.slice ar R.length cr) (.slice ax X.length cx) xs1 (mix k0 R R.length) (sq k1 X.length)) := (by
    refine ⟨O1.out.kb (S := fun g => (Value.slice ax X.length cx).ownBlock = some g) (KB.of_grown g2 (fun _ e => e)) (fun g hg hc => ?_), by rw [sq_len]; exact r2, fun i a hi hb => ?_⟩
    · rw [mix_len] at hg
      rcases hg with hg | ⟨i, hi, hg⟩
      · exact type_ne LX.out O1.out.1 (by decide) g hc hg
      · rw [HB1.out] at hg
        exact S0.out.2.2 i g hi hg hc
    · rw [mix_len] at hi
      rw [HB1.out] at hb
      exact S0.out.2.2 i a hi hb)
  clear r2 g2
  go_wp2_with fail
  go_ret
  exact ⟨rfl, K2.out, xs1, O2.out, HB1.out⟩

set_option maxHeartbeats 1000000 in
theorem markRun_any (w : World) (base : Nat) (r x j : Value) (n : Int) (xs0 : List Value) (R : Tk.Ls) (X : List Int) (J : Jb.Ls) (h : RO w base r x j xs0 R X J) (hs : 1 + (tl R R.length : Int) ≤ 2305843009213693952) (hl : ∀ i, i < R.length → (Tk.cl R i).length ≤ 1048576) (hx : X.length ≤ 1048576) (hj : J.length ≤ 1048576) :
    Calls Try.prog 14 #[rv r x n j, .int .i64 1] w fun e w' => e = .returned (.int .i64 (1 + (tl R R.length : Int) + (X.length : Int) + (J.length : Int) * 2)) ∧ KB (RB r x j xs0 R.length) w w' ∧ ∃ xs, RO w' base r x j xs (mix 1 R R.length) (sq (1 + (tl R R.length : Int)) X.length) (Jb.mkw (1 + (tl R R.length : Int) + (X.length : Int)) J.length) ∧ ∀ i, bk xs i = bk xs0 i := by
  obtain ⟨w0, hw0⟩ : ∃ w0, w0 = w.alloc (Obj.cells #[r, x, .int .i64 n, j] 35) := ⟨_, rfl⟩
  have HW0 : Hid (w0 = w.alloc (Obj.cells #[r, x, .int .i64 n, j] 35)) := hw0
  have b0 : Below w.heap.size w w0 := by rw [hw0]; exact (Below.refl _ _).alloc (Nat.le_refl _) _
  have Z0 : Hid (w0.heap.size = w.heap.size + 1) := (by show _ = _; rw [hw0]; simp)
  have X0 : Hid (Box w0 w.heap.size r x (.int .i64 n) j) := (by show Box _ _ _ _ _ _; rw [hw0]; unfold Box; simp [go_sem])
  have K0 : Hid (KB (RB r x j xs0 R.length) w w0) := KB.of_below b0
  have S0 : Hid (RO w0 base r x j xs0 R X J) := h.on b0
  have HB : Hid (∀ g, RB r x j xs0 R.length g → g < w.heap.size) := fun g hg => (h.bs g hg).2
  have C1 : Hid (Calls Try.prog 39 #[Su.pv r x, .int .i64 1] w0 fun e w' => e = .returned (.int .i64 (1 + (tl R R.length : Int) + (X.length : Int))) ∧ KB (SB r x xs0 R.length) w0 w' ∧ ∃ xs, SO w' base r x xs (mix 1 R R.length) (sq (1 + (tl R R.length : Int)) X.length) ∧ ∀ i, bk xs i = bk xs0 i) := markSuite_any w0 base r x xs0 R X 1 S0.out.1 (by omega) hs hl hx
  obtain ⟨ar, cr, er⟩ := h.reads.1.form
  obtain ⟨ax, cx, ex⟩ := h.reads.2.1.form
  obtain ⟨aj, cj, ej⟩ := h.reads.2.2.form
  obtain ⟨k1, hk1⟩ : ∃ k1 : Int, k1 = 1 + (tl R R.length : Int) + (X.length : Int) := ⟨_, rfl⟩
  have k1a : 0 ≤ k1 := by omega
  have k1b : k1 ≤ 4611686018427387904 := by omega
  rw [← hk1] at C1 ⊢
  have C2 : Hid (∀ w', Jb.Row w' base j J → Calls Try.prog 40 #[j, .int .i64 k1] w' fun e w'' => e = .returned (.int .i64 (k1 + (J.length : Int) * 2)) ∧ Jb.Row w'' base j (Jb.mkw k1 J.length) ∧ w'.grownBy w'' j.ownBlock) := fun w' hh => by
    obtain ⟨ys, y1, _⟩ := hh
    exact Jb.markw_any k1 k1a k1b w' base J.length j ys hj y1
  have TJ : Hid (∀ w' g, SB r x xs0 R.length g → Jb.Row w' base j J → Own w' base r xs0 R → w'.ownsRow base 2 1 x X.length (ints X) → j.ownBlock = some g → False) := fun w' g hg hJ hO hX hj => by
    obtain ⟨ys, y1, _⟩ := hJ
    rcases hg with (hg | ⟨i, hi, hg⟩) | hg
    · exact type_ne y1 hO.1 (by decide) g hj hg
    · obtain ⟨_, _, _, u, hu, hr⟩ := hO.2.1 i hi
      unfold bk at hg
      rw [hu] at hg
      exact type_ne y1 hr (by decide) g hj hg
    · exact type_ne y1 hX (by decide) g hj hg
  clear hk1 hs hw0 b0 h
  subst er ex ej
  obtain ⟨x0, x1, x2, x3⟩ := X0.out
  go_enter Try.func14, Try.ntmps14
  go_wp2_with fail
  rw [← HW0.out]
  refine C1.out.mono ?_
  rintro e w1 ⟨rfl, kb, xs1, o1, hb1⟩
  have K1 : Hid (KB (RB (.slice ar R.length cr) (.slice ax X.length cx) (.slice aj J.length cj) xs0 R.length) w w1) := K0.out.trans (kb.mono (fun g hg => .inl hg))
  have NB : ¬ SB (.slice ar R.length cr) (.slice ax X.length cx) xs0 R.length w.heap.size := fun hg => by have := HB.out _ (.inl hg); omega
  have LJ : Hid (Jb.Row w1 base (.slice aj J.length cj) J) := jrow_kb S0.out.2 kb (fun g hg hc => TJ.out w0 g hc S0.out.2 S0.out.1.1 S0.out.1.2.1 hg)
  have O1 : Hid (SO w1 base (.slice ar R.length cr) (.slice ax X.length cx) xs1 (mix 1 R R.length) (sq (1 + (tl R R.length : Int)) X.length)) := o1
  have HB1 : Hid (∀ i, bk xs1 i = bk xs0 i) := hb1
  have y3 : w1.cell? ⟨w.heap.size, 3, none⟩ = some (.slice aj J.length cj) := (cell_kb kb (by have := Z0.out; omega) NB).trans X0.out.2.2.2
  clear kb o1 hb1 NB x0 x1 x2 x3 HW0
  go_wp2_with fail
  refine (C2.out w1 LJ.out).mono ?_
  rintro e w2 ⟨rfl, r2, g2⟩
  have K2 : Hid (KB (RB (.slice ar R.length cr) (.slice ax X.length cx) (.slice aj J.length cj) xs0 R.length) w w2) := K1.out.trans (KB.of_grown g2 (fun g hg => .inr hg))
  have O2 : Hid (RO w2 base (.slice ar R.length cr) (.slice ax X.length cx) (.slice aj J.length cj) xs1 (mix 1 R R.length) (sq (1 + (tl R R.length : Int)) X.length) (Jb.mkw k1 J.length)) := (by
    refine ⟨O1.out.kb (S := fun g => (Value.slice aj J.length cj).ownBlock = some g) (KB.of_grown g2 (fun _ e => e)) (fun g hg hc => ?_), r2⟩
    obtain ⟨ys, y1, _⟩ := LJ.out
    rw [mix_len] at hg
    rcases hg with (hg | ⟨i, hi, hg⟩) | hg
    · exact type_ne y1 O1.out.1.1 (by decide) g hc hg
    · obtain ⟨_, _, _, u, hu, hr⟩ := O1.out.1.2.1 i (by rw [mix_len]; exact hi)
      unfold bk at hg
      rw [hu] at hg
      exact type_ne y1 hr (by decide) g hc hg
    · exact type_ne y1 O1.out.2.1 (by decide) g hc hg)
  clear r2 g2
  go_wp2_with fail
  go_ret
  exact ⟨rfl, K2.out, xs1, O2.out, HB1.out⟩

set_option maxHeartbeats 1000000 in
theorem heldSuite_any (w : World) (r x : Value) (R : Tk.Ls) (n : Nat) (k0 : Int) (h1 : Tk.Reads w r (mix k0 R R.length)) (h2 : Lists.Reads w x (sq (k0 + (tl R R.length : Int)) n)) (h0 : 0 ≤ k0) (hs : k0 + (tl R R.length : Int) ≤ 2305843009213693952) (hl : ∀ i, i < R.length → (Tk.cl R i).length ≤ 1048576) (hx : n ≤ 1048576) :
    Calls Try.prog 41 #[Su.pv r x, .int .i64 k0] w fun e w' => e = .returned (.int .i64 (k0 + (tl R R.length : Int) + (n : Int))) ∧ Below w.heap.size w w' := by
  obtain ⟨w0, hw0⟩ : ∃ w0, w0 = w.alloc (Obj.cells #[r, x] 32) := ⟨_, rfl⟩
  have HW0 : Hid (w0 = w.alloc (Obj.cells #[r, x] 32)) := hw0
  have b0 : Hid (Below w.heap.size w w0) := (by show Below _ _ _; rw [hw0]; exact (Below.refl _ _).alloc (Nat.le_refl _) _)
  have X0 : Hid (∀ m, Su.Box (w0.drewN m) w.heap.size r x) := fun m => (by show Su.Box w0 _ _ _; rw [hw0]; unfold Su.Box; simp [go_sem])
  have C1 : Hid (Calls Try.prog 64 #[r, .int .i64 k0] w0 fun e w' => e = .returned (.int .i64 (k0 + (tl R R.length : Int))) ∧ ∃ m, w' = w0.drewN m) := heldS_any w0 r R k0 (h1.on b0.out) h0 (by omega) hl
  obtain ⟨k1, hk1⟩ : ∃ k1 : Int, k1 = k0 + (tl R R.length : Int) := ⟨_, rfl⟩
  rw [← hk1] at C1 h2 ⊢
  have k1a : 0 ≤ k1 := by omega
  have k1b : ¬ k1 < 0 := by omega
  have k2b : ¬ k1 + (n : Int) < 0 := by omega
  have C2 : Hid (∀ m, Calls Try.prog 17 #[x, .int .i64 k1] (w0.drewN m) fun e w' => e = .returned (.int .i64 (k1 + n)) ∧ ∃ m', w' = (w0.drewN m).drewN m') := fun m => Lists.heldW_any (w0.drewN m) x n k1 k1a (by omega) (by omega) ((h2.on b0.out).on (Tk1.below_drewN (Below.refl _ _) m))
  obtain ⟨ar, cr, er⟩ := h1.form
  obtain ⟨ax, cx, ex⟩ := h2.form
  subst er ex
  clear h1 h2 hs hk1 hw0
  obtain ⟨x0, x1⟩ := X0.out 0
  go_enter Try.func41, Try.ntmps41
  go_wp2_with fail
  rw [← HW0.out]
  refine C1.out.mono ?_
  rintro e w1 ⟨rfl, m1, rfl⟩
  clear x0 x1 HW0
  obtain ⟨x0, x1⟩ := X0.out m1
  go_wp2_with fail
  refine (C2.out m1).mono ?_
  rintro e w2 ⟨rfl, m2, rfl⟩
  go_wp2_with fail
  go_ret
  exact ⟨rfl, Tk1.below_drewN b0.out _⟩

set_option maxHeartbeats 1000000 in
theorem heldRun_any (w : World) (r x j : Value) (nw : Int) (R : Tk.Ls) (n nj : Nat) (h : RR w r x j (mix 1 R R.length) (sq (1 + (tl R R.length : Int)) n) (Jb.mkw (1 + (tl R R.length : Int) + (n : Int)) nj)) (hs : 1 + (tl R R.length : Int) ≤ 2305843009213693952) (hl : ∀ i, i < R.length → (Tk.cl R i).length ≤ 1048576) (hx : n ≤ 1048576) (hj : nj ≤ 1048576) :
    Calls Try.prog 16 #[rv r x nw j, .int .i64 1] w fun e w' => e = .returned (.int .i64 (1 + (tl R R.length : Int) + (n : Int) + (nj : Int) * 2)) ∧ Below w.heap.size w w' := by
  obtain ⟨w0, hw0⟩ : ∃ w0, w0 = w.alloc (Obj.cells #[r, x, .int .i64 nw, j] 35) := ⟨_, rfl⟩
  have HW0 : Hid (w0 = w.alloc (Obj.cells #[r, x, .int .i64 nw, j] 35)) := hw0
  have b0 : Hid (Below w.heap.size w w0) := (by show Below _ _ _; rw [hw0]; exact (Below.refl _ _).alloc (Nat.le_refl _) _)
  have Z0 : Hid (w0.heap.size = w.heap.size + 1) := (by show _ = _; rw [hw0]; simp)
  have X0 : Hid (Box w0 w.heap.size r x (.int .i64 nw) j) := (by show Box _ _ _ _ _ _; rw [hw0]; unfold Box; simp [go_sem])
  have C1 : Hid (Calls Try.prog 41 #[Su.pv r x, .int .i64 1] w0 fun e w' => e = .returned (.int .i64 (1 + (tl R R.length : Int) + (n : Int))) ∧ Below w0.heap.size w0 w') := heldSuite_any w0 r x R n 1 (h.1.on b0.out) (h.2.1.on b0.out) (by omega) hs hl hx
  obtain ⟨k1, hk1⟩ : ∃ k1 : Int, k1 = 1 + (tl R R.length : Int) + (n : Int) := ⟨_, rfl⟩
  rw [← hk1] at C1 h ⊢
  have k1a : 0 ≤ k1 := by omega
  have k1b : ¬ k1 < 0 := by omega
  have k2b : ¬ k1 + (nj : Int) * 2 < 0 := by omega
  have C2 : Hid (∀ w', Below w.heap.size w w' → Calls Try.prog 42 #[j, .int .i64 k1] w' fun e w'' => e = .returned (.int .i64 (k1 + (nj : Int) * 2)) ∧ ∃ m, w'' = w'.drewN m) := fun w' hb => Jb.heldw_any k1 k1a (by omega) w' j nj hj (h.2.2.on hb)
  obtain ⟨ar, cr, er⟩ := h.1.form
  obtain ⟨ax, cx, ex⟩ := h.2.1.form
  obtain ⟨aj, cj, ej⟩ := h.2.2.form
  subst er ex ej
  clear h hs hk1 hw0
  obtain ⟨x0, x1, x2, x3⟩ := X0.out
  go_enter Try.func16, Try.ntmps16
  go_wp2_with fail
  rw [← HW0.out]
  refine C1.out.mono ?_
  rintro e w1 ⟨rfl, hb⟩
  have B1 : Hid (Below w.heap.size w w1) := b0.out.trans (hb.mono b0.out.size)
  have Y1 := X0.out.on hb (by have := Z0.out; omega)
  clear x0 x1 x2 x3 HW0 hb
  obtain ⟨x0, x1, x2, x3⟩ := Y1
  go_wp2_with fail
  refine (C2.out w1 B1.out).mono ?_
  rintro e w2 ⟨rfl, m2, hw⟩
  have B2 : Hid (Below w.heap.size w w2) := (by show Below _ _ _; rw [hw]; exact Tk1.below_drewN B1.out _)
  clear hw
  go_wp2_with fail
  go_ret
  exact ⟨rfl, B2.out⟩
end Go.Proofs.Ytpdmfhbpedimaaa.Ru
