/- What rounding gives of some whole numbers, plain; a Packed in memory. -/
import Derived.Test.YtgajajpcjbpalaaYc
namespace Go.Proofs.Ytgajajpcjbpalaa.Pkd
open Go.ChangeShapes Go.WideShapes Go.ChangeAt Go.RowKit
open Go.Proofs.Ytgajajpcjbpalaa.Lists Go.Proofs.Ytgajajpcjbpalaa.Flt Go.Proofs.Ytgajajpcjbpalaa.Fls


def Box7 (w : World) (g : Nat) (v0 v1 v2 v3 v4 v5 v6 : Value) : Prop := w.cell? ⟨g, 0, none⟩ = some v0 ∧ w.cell? ⟨g, 1, none⟩ = some v1 ∧ w.cell? ⟨g, 2, none⟩ = some v2 ∧ w.cell? ⟨g, 3, none⟩ = some v3 ∧ w.cell? ⟨g, 4, none⟩ = some v4 ∧ w.cell? ⟨g, 5, none⟩ = some v5 ∧ w.cell? ⟨g, 6, none⟩ = some v6
theorem Box7.on {w w' : World} {B g : Nat} {v0 v1 v2 v3 v4 v5 v6 : Value} (h : Box7 w g v0 v1 v2 v3 v4 v5 v6) (hb : Below B w w') (hg : g < B) : Box7 w' g v0 v1 v2 v3 v4 v5 v6 := by
  obtain ⟨h0, h1, h2, h3, h4, h5, h6⟩ := h
  exact ⟨(hb.cell (p := ⟨g, 0, none⟩) hg).trans h0, (hb.cell (p := ⟨g, 1, none⟩) hg).trans h1, (hb.cell (p := ⟨g, 2, none⟩) hg).trans h2, (hb.cell (p := ⟨g, 3, none⟩) hg).trans h3, (hb.cell (p := ⟨g, 4, none⟩) hg).trans h4, (hb.cell (p := ⟨g, 5, none⟩) hg).trans h5, (hb.cell (p := ⟨g, 6, none⟩) hg).trans h6⟩
theorem Box7.grown {w w' : World} {g k : Nat} {v0 v1 v2 v3 v4 v5 v6 : Value} (h : Box7 w g v0 v1 v2 v3 v4 v5 v6) (hb : w.grownBy w' (some k)) (hg : g ≠ k) : Box7 w' g v0 v1 v2 v3 v4 v5 v6 := by
  obtain ⟨h0, h1, h2, h3, h4, h5, h6⟩ := h
  have e : some g ≠ some k := by simpa using hg
  exact ⟨hb.cell h0 e, hb.cell h1 e, hb.cell h2 e, hb.cell h3 e, hb.cell h4 e, hb.cell h5 e, hb.cell h6 e⟩
theorem Box7.apart {w w' : World} {g : Nat} {row : Option Nat} {v0 v1 v2 v3 v4 v5 v6 : Value} (h : Box7 w g v0 v1 v2 v3 v4 v5 v6) (hb : w.grownBy w' row) (hg : ∀ k, row = some k → g ≠ k) : Box7 w' g v0 v1 v2 v3 v4 v5 v6 := by
  obtain ⟨h0, h1, h2, h3, h4, h5, h6⟩ := h
  have e : some g ≠ row := fun x => hg g x.symm rfl
  exact ⟨hb.cell h0 e, hb.cell h1 e, hb.cell h2 e, hb.cell h3 e, hb.cell h4 e, hb.cell h5 e, hb.cell h6 e⟩


theorem Box7.alloc {w : World} {g : Nat} {v0 v1 v2 v3 v4 v5 v6 : Value} {ob : Obj} (h : Box7 w g v0 v1 v2 v3 v4 v5 v6) : Box7 (w.alloc ob) g v0 v1 v2 v3 v4 v5 v6 := by
  obtain ⟨h0, h1, h2, h3, h4, h5, h6⟩ := h
  exact ⟨by rw [World.cell?_alloc_some w _ ob (by rw [h0]; rfl)]; exact h0, by rw [World.cell?_alloc_some w _ ob (by rw [h1]; rfl)]; exact h1, by rw [World.cell?_alloc_some w _ ob (by rw [h2]; rfl)]; exact h2, by rw [World.cell?_alloc_some w _ ob (by rw [h3]; rfl)]; exact h3, by rw [World.cell?_alloc_some w _ ob (by rw [h4]; rfl)]; exact h4, by rw [World.cell?_alloc_some w _ ob (by rw [h5]; rfl)]; exact h5, by rw [World.cell?_alloc_some w _ ob (by rw [h6]; rfl)]; exact h6⟩
theorem Box7.far {w : World} {g k o : Nat} {u : Value} {v0 v1 v2 v3 v4 v5 v6 : Value} (h : Box7 w g v0 v1 v2 v3 v4 v5 v6) (hg : g ≠ k) : Box7 (w.setCell ⟨k, o, none⟩ u) g v0 v1 v2 v3 v4 v5 v6 := h.grown (grown_setCell (World.grownBy.refl w (some k)) o u) hg
theorem Box7.put2 {w : World} {g : Nat} {u : Value} {v0 v1 v2 v3 v4 v5 v6 : Value} (h : Box7 w g v0 v1 v2 v3 v4 v5 v6) : Box7 (w.setCell ⟨g, 2, none⟩ u) g v0 v1 u v3 v4 v5 v6 := by
  obtain ⟨h0, h1, h2, h3, h4, h5, h6⟩ := h
  unfold Box7
  simp [go_sem, h0, h1, h2, h3, h4, h5, h6]
theorem Box7.put3 {w : World} {g : Nat} {u : Value} {v0 v1 v2 v3 v4 v5 v6 : Value} (h : Box7 w g v0 v1 v2 v3 v4 v5 v6) : Box7 (w.setCell ⟨g, 3, none⟩ u) g v0 v1 v2 u v4 v5 v6 := by
  obtain ⟨h0, h1, h2, h3, h4, h5, h6⟩ := h
  unfold Box7
  simp [go_sem, h0, h1, h2, h3, h4, h5, h6]
theorem Box7.put5 {w : World} {g : Nat} {u : Value} {v0 v1 v2 v3 v4 v5 v6 : Value} (h : Box7 w g v0 v1 v2 v3 v4 v5 v6) : Box7 (w.setCell ⟨g, 5, none⟩ u) g v0 v1 v2 v3 v4 u v6 := by
  obtain ⟨h0, h1, h2, h3, h4, h5, h6⟩ := h
  unfold Box7
  simp [go_sem, h0, h1, h2, h3, h4, h5, h6]
theorem Box7.put6 {w : World} {g : Nat} {u : Value} {v0 v1 v2 v3 v4 v5 v6 : Value} (h : Box7 w g v0 v1 v2 v3 v4 v5 v6) : Box7 (w.setCell ⟨g, 6, none⟩ u) g v0 v1 v2 v3 v4 v5 u := by
  obtain ⟨h0, h1, h2, h3, h4, h5, h6⟩ := h
  unfold Box7
  simp [go_sem, h0, h1, h2, h3, h4, h5, h6]
theorem set_row {e : TypeId} {w : World} {base n : Nat} {v : Value} {xs : List Value} (h : w.ownsRow base e 1 v n xs) (g o : Nat) (u : Value) (hg : g < base) : (w.setCell ⟨g, o, none⟩ u).ownsRow base e 1 v n xs := by
  refine h.kept (row := some g) (grown_setCell (World.grownBy.refl w (some g)) o u) ?_
  cases e : v.ownBlock with
  | none => exact .inl rfl
  | some k =>
    refine .inr fun x => ?_
    have := (h.lt k e).1
    cases x
    omega

def expOf (w : World) (A : Nat) : Nat := match w.cell? ⟨A, 3, none⟩ with | some (.int _ z) => z.toNat | _ => 0
theorem expOf_eq {w : World} {A e : Nat} (h : w.cell? ⟨A, 3, none⟩ = some (.int .i64 (e : Int))) : expOf w A = e := by unfold expOf; rw [h]; simp

/-- The least place at which the code has so many bits. -/
def IsEx (h b : Int) (e : Nat) : Prop := cod h e < 2 ^ b.toNat ∧ ∀ d, d < e → (2 : Int) ^ b.toNat ≤ cod h d
theorem IsEx.same {h b : Int} {d e : Nat} (x : IsEx h b d) (y : IsEx h b e) : d = e := by
  rcases Nat.lt_trichotomy d e with c | c | c
  · have := y.2 d c; have := x.1; omega
  · exact c
  · have := x.2 e c; have := y.1; omega
theorem cod_end (h : Int) (h0 : 0 ≤ h) (h1 : h ≤ 2199023255552) : cod h 41 < 2 := by unfold cod; omega
theorem pow_b (b : Int) (b1 : 1 ≤ b) (b2 : b ≤ 24) : (2 : Int) ≤ 2 ^ b.toNat ∧ (2 : Int) ^ b.toNat ≤ 16777216 := by
  have key : ∀ b : Fin 25, 1 ≤ b.val → (2 : Int) ≤ 2 ^ b.val ∧ (2 : Int) ^ b.val ≤ 16777216 := by decide +kernel
  exact key ⟨b.toNat, by omega⟩ (by show 1 ≤ b.toNat; omega)
theorem ex_le (h b : Int) (e : Nat) (h0 : 0 ≤ h) (h1 : h ≤ 2199023255552) (b1 : 1 ≤ b) (b2 : b ≤ 24) (H : ∀ d, d < e → (2 : Int) ^ b.toNat ≤ cod h d) : e ≤ 41 := by
  by_cases c : e ≤ 41
  · exact c
  · have := H 41 (by omega); have := cod_end h h0 h1; have := pow_b b b1 b2; omega

/-- What rounding gives of some whole numbers. -/
def IsPk (W : List Int) (b r : Int) (e : Nat) (cd : List Int) : Prop :=
  (W = [] ∧ r = 0 ∧ e = 0 ∧ cd = []) ∨ ∃ M, IsMin r W ∧ IsMax M W ∧ IsEx (M - r) b e ∧ cd = W.map fun n => cod (n - r) e
theorem IsPk.same {W : List Int} {b r r' : Int} {e e' : Nat} {cd cd' : List Int} (x : IsPk W b r e cd) (y : IsPk W b r' e' cd') : r = r' ∧ e = e' ∧ cd = cd' := by
  rcases x with ⟨x0, x1, x2, x3⟩ | ⟨M, x1, x2, x3, x4⟩
  · rcases y with ⟨y0, y1, y2, y3⟩ | ⟨M', y1, y2, y3, y4⟩
    · exact ⟨by rw [x1, y1], by rw [x2, y2], by rw [x3, y3]⟩
    · have := y1.1; rw [x0] at this; cases this
  · rcases y with ⟨y0, y1, y2, y3⟩ | ⟨M', y1, y2, y3, y4⟩
    · have := x1.1; rw [y0] at this; cases this
    · have er := x1.same y1
      have eM := x2.same y2
      subst er eM
      have ee := x3.same y3
      subst ee
      exact ⟨rfl, rfl, by rw [x4, y4]⟩
theorem all_fit {W : List Int} (h : W.all fit = true) : ∀ x ∈ W, -1099511627776 ≤ x ∧ x ≤ 1099511627776 := by
  intro x hx
  have := List.all_eq_true.1 h x hx
  unfold fit at this
  simpa using this
theorem cod_le (a h b : Int) (e : Nat) (h0 : 0 ≤ a) (h1 : a ≤ h) (x : IsEx h b e) (b1 : 1 ≤ b) (b2 : b ≤ 24) (he : e ≤ 41) : 0 ≤ cod a e ∧ cod a e ≤ 16777216 := by
  obtain ⟨p0, p1⟩ := pow42 e (by omega)
  have q := (pow_b b b1 b2).2
  have hx := x.1
  unfold cod at *
  have m : (a + 2 ^ e / 2) / 2 ^ e ≤ (h + 2 ^ e / 2) / 2 ^ e := Int.ediv_le_ediv (by omega) (by omega)
  exact ⟨Int.ediv_nonneg (by omega) (by omega), by omega⟩

end Go.Proofs.Ytgajajpcjbpalaa.Pkd
