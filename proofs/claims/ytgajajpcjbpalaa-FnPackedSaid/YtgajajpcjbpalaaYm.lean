/- Pack of the model: its memory; what it refuses for its arguments. -/
import Derived.Test.YtgajajpcjbpalaaYl
namespace Go.Proofs.Ytgajajpcjbpalaa.Pkd
open Go.ChangeShapes Go.WideShapes Go.ChangeAt Go.RowKit
open Go.Proofs.Ytgajajpcjbpalaa.Lists Go.Proofs.Ytgajajpcjbpalaa.Flt Go.Proofs.Ytgajajpcjbpalaa.Fls


theorem type_ne {w : World} {b1 b2 n1 n2 k1 k2 : Nat} {e1 e2 : TypeId} {v1 v2 : Value} {xs1 xs2 : List Value} (h1 : w.ownsRow b1 e1 k1 v1 n1 xs1) (h2 : w.ownsRow b2 e2 k2 v2 n2 xs2) (he : e1 ≠ e2) (g : Nat) (x1 : v1.ownBlock = some g) (x2 : v2.ownBlock = some g) : False := by
  rcases h1.2 with ⟨a, _⟩ | ⟨g1, c1, cur1, y1, _, z1, _⟩
  · rw [a] at x1; cases x1
  · rcases h2.2 with ⟨a, _⟩ | ⟨g2, c2, cur2, y2, _, z2, _⟩
    · rw [a] at x2; cases x2
    · rw [y1] at x1; rw [y2] at x2
      simp [Value.ownBlock] at x1 x2
      rw [x1] at z1; rw [x2] at z2
      rw [z1] at z2
      simp at z2
      exact he z2.2

theorem bys_snoc (L : List Int) (x : Int) : Bytes.bys (L ++ [x]) = Bytes.bys L ++ [.int .u8 x] := by simp [Bytes.bys]
/-- The model's first loop: the result's box, both rows. -/
structure M1 (w wx : World) (tv lv : Value) (nt nw : Nat) (T W : List Int) : Prop where
  bl : Below w.heap.size w wx
  bx : Box7 wx w.heap.size (.int .i64 0) (.int .i64 0) (.int .i64 0) (.int .i64 0) (.int .i64 0) (.slice none 0 0) (.slice none 0 0)
  fz : ∀ j, wx.frozen? ⟨w.heap.size, j, none⟩ = false
  ot : wx.ownsRow (w.heap.size + 1) 5 1 tv nt (Bytes.bys T)
  ol : wx.ownsRow (w.heap.size + 1) 2 1 lv nw (ints W)
theorem M1.lt {w wx : World} {tv lv : Value} {nt nw : Nat} {T W : List Int} (h : M1 w wx tv lv nt nw T W) : w.heap.size < wx.heap.size := World.block_lt_of_cell? wx ⟨w.heap.size, 0, none⟩ h.bx.1
theorem M1.drewN {w wx : World} {tv lv : Value} {nt nw : Nat} {T W : List Int} (h : M1 w wx tv lv nt nw T W) (m : Nat) : M1 w (wx.drewN m) tv lv nt nw T W := ⟨below_drewN h.bl m, h.bx, h.fz, h.ot, h.ol⟩
theorem M1.pushT {w wx w6 : World} {tv lv tv' : Value} {nt nw : Nat} {T W : List Int} {x : Int} {ob : Obj} (h : M1 w wx tv lv nt nw T W)
    (hown : w6.ownsRow (w.heap.size + 1) 5 1 tv' (nt + 1) (Bytes.bys T ++ [.int .u8 x])) (hgrow : (wx.alloc ob).grownBy w6 tv.ownBlock) : M1 w w6 tv' lv (nt + 1) nw (T ++ [x]) W := by
  have sz := h.lt
  have bA : Below (w.heap.size + 1) (wx.alloc ob) w6 := (Below.refl _ _).grown hgrow (by simp; omega) (fun k hk => (h.ot.lt k hk).1)
  have bB : Below (w.heap.size + 1) wx w6 := ((Below.refl (w.heap.size + 1) wx).alloc sz _).trans bA
  refine ⟨h.bl.trans (bB.mono (by omega)), h.bx.on bB (by omega), fun j => (bB.frozen (p := ⟨w.heap.size, j, none⟩) (by show w.heap.size < _; omega)).trans (h.fz j), by rw [bys_snoc]; exact hown, ?_⟩
  exact row_apart_e (h.ol.alloc _) hgrow (fun k j hk hj e => type_ne h.ol h.ot (by decide) k hk (by rw [hj, e]))
theorem M1.pushL {w wx w6 : World} {tv lv lv' : Value} {nt nw : Nat} {T W : List Int} {x : Int} {ob : Obj} (h : M1 w wx tv lv nt nw T W)
    (hown : w6.ownsRow (w.heap.size + 1) 2 1 lv' (nw + 1) (ints W ++ [.int .i64 x])) (hgrow : (wx.alloc ob).grownBy w6 lv.ownBlock) : M1 w w6 tv lv' nt (nw + 1) T (W ++ [x]) := by
  have sz := h.lt
  have bA : Below (w.heap.size + 1) (wx.alloc ob) w6 := (Below.refl _ _).grown hgrow (by simp; omega) (fun k hk => (h.ol.lt k hk).1)
  have bB : Below (w.heap.size + 1) wx w6 := ((Below.refl (w.heap.size + 1) wx).alloc sz _).trans bA
  refine ⟨h.bl.trans (bB.mono (by omega)), h.bx.on bB (by omega), fun j => (bB.frozen (p := ⟨w.heap.size, j, none⟩) (by show w.heap.size < _; omega)).trans (h.fz j), ?_, by rw [ints_snoc]; exact hown⟩
  exact row_apart_e (h.ot.alloc _) hgrow (fun k j hk hj e => type_ne h.ot h.ol (by decide) k hk (by rw [hj, e]))

/-- The model's Packed, at P, made at the end of wq. -/
structure QB (wq wx : World) (P : Nat) (c d r e b : Int) (t v : Value) (n : Nat) (Q : List Int) : Prop where
  eP : P = wq.heap.size
  bl : Below P wq wx
  bx : Box7 wx P (.int .i64 c) (.int .i64 d) (.int .i64 r) (.int .i64 e) (.int .i64 b) t v
  fz : ∀ j, wx.frozen? ⟨P, j, none⟩ = false
  row : wx.ownsRow (P + 1) 2 1 v n (ints Q)
theorem QB.lt {wq wx : World} {P n : Nat} {c d r e b : Int} {t v : Value} {Q : List Int} (h : QB wq wx P c d r e b t v n Q) : P < wx.heap.size := World.block_lt_of_cell? wx ⟨P, 0, none⟩ h.bx.1
theorem QB.drewN {wq wx : World} {P n : Nat} {c d r e b : Int} {t v : Value} {Q : List Int} (h : QB wq wx P c d r e b t v n Q) (m : Nat) : QB wq (wx.drewN m) P c d r e b t v n Q := ⟨h.eP, below_drewN h.bl m, h.bx, h.fz, h.row⟩
theorem QB.set2 {wq wx : World} {P n : Nat} {c d r e b : Int} {t v : Value} {Q : List Int} (h : QB wq wx P c d r e b t v n Q) (x : Int) : QB wq (wx.setCell ⟨P, 2, none⟩ (.int .i64 x)) P c d x e b t v n Q :=
  ⟨h.eP, h.bl.setCell (p := ⟨P, 2, none⟩) (Nat.le_refl _) _, h.bx.put2, fun j => by rw [World.frozen?_setCell]; exact h.fz j, set_row h.row P 2 _ (by omega)⟩
theorem QB.set3 {wq wx : World} {P n : Nat} {c d r e b : Int} {t v : Value} {Q : List Int} (h : QB wq wx P c d r e b t v n Q) (x : Int) : QB wq (wx.setCell ⟨P, 3, none⟩ (.int .i64 x)) P c d r x b t v n Q :=
  ⟨h.eP, h.bl.setCell (p := ⟨P, 3, none⟩) (Nat.le_refl _) _, h.bx.put3, fun j => by rw [World.frozen?_setCell]; exact h.fz j, set_row h.row P 3 _ (by omega)⟩
theorem QB.set5 {wq wx : World} {P n : Nat} {c d r e b : Int} {t v : Value} {Q : List Int} (h : QB wq wx P c d r e b t v n Q) (x : Value) : QB wq (wx.setCell ⟨P, 5, none⟩ x) P c d r e b x v n Q :=
  ⟨h.eP, h.bl.setCell (p := ⟨P, 5, none⟩) (Nat.le_refl _) _, h.bx.put5, fun j => by rw [World.frozen?_setCell]; exact h.fz j, set_row h.row P 5 _ (by omega)⟩
theorem QB.more {wq wx w5 : World} {P n g cp : Nat} {c d r e b x : Int} {t v : Value} {Q : List Int} {ob : Obj} (h : QB wq wx P c d r e b t v n Q)
    (hr : w5.ownsRow (P + 1) 2 1 (.slice (some ⟨g, 0, none⟩) (n + 1) cp) (n + 1) (ints Q ++ [.int .i64 x])) (hg : (wx.alloc ob).grownBy w5 v.ownBlock) :
    QB wq (w5.setCell ⟨P, 6, none⟩ (.slice (some ⟨g, 0, none⟩) (n + 1) cp)) P c d r e b t (.slice (some ⟨g, 0, none⟩) (n + 1) cp) (n + 1) (Q ++ [x]) := by
  have sz := h.lt
  have bA : Below (P + 1) (wx.alloc ob) w5 := (Below.refl _ _).grown hg (by simp; omega) (fun k hk => (h.row.lt k hk).1)
  have bB : Below (P + 1) wx w5 := ((Below.refl (P + 1) wx).alloc sz _).trans bA
  refine ⟨h.eP, (h.bl.trans (bB.mono (by omega))).setCell (p := ⟨P, 6, none⟩) (Nat.le_refl _) _, (h.bx.on bB (by omega)).put6, fun j => ?_, ?_⟩
  · rw [World.frozen?_setCell]; exact (bB.frozen (p := ⟨P, j, none⟩) (by show P < _; omega)).trans (h.fz j)
  · rw [ints_snoc]; exact set_row hr P 6 _ (by omega)

set_option maxHeartbeats 1000000 in
set_option maxRecDepth 20000 in
theorem spack_args (v : Value) (L : List Nat) (b dec : Int) (w : World) (hR : Fls.Reads w v L) (ho : okA L.length b dec = false) :
    Calls Try.prog 5 #[v, .int .i64 b, .int .i64 dec] w (Post L b dec w) := by
  obtain ⟨xa, xc, ev⟩ := hR.form
  subst ev
  obtain ⟨w1, hw1⟩ : ∃ w1, w1 = w.alloc (.cells #[.int .i64 0, .int .i64 0, .int .i64 0, .int .i64 0, .int .i64 0, .slice none 0 0, .slice none 0 0] 26) := ⟨_, rfl⟩
  have HW : Hid (w1 = w.alloc (.cells #[.int .i64 0, .int .i64 0, .int .i64 0, .int .i64 0, .int .i64 0, .slice none 0 0, .slice none 0 0] 26)) := hw1
  have B1 : Below w.heap.size w w1 := (by rw [hw1]; exact (Below.refl _ _).alloc (Nat.le_refl _) _)
  have Z1 : Box7 w1 w.heap.size (.int .i64 0) (.int .i64 0) (.int .i64 0) (.int .i64 0) (.int .i64 0) (.slice none 0 0) (.slice none 0 0) := (by rw [hw1]; exact zbox w)
  have F1 : ∀ j, w1.frozen? ⟨w.heap.size, j, none⟩ = false := fun j => (by rw [hw1]; simp [go_sem])
  have FX : Hid (Box7 (((((((w1.setCell ⟨w.heap.size, 0, none⟩ (.int .i64 0)).setCell ⟨w.heap.size, 1, none⟩ (.int .i64 0)).setCell ⟨w.heap.size, 2, none⟩ (.int .i64 0)).setCell ⟨w.heap.size, 3, none⟩ (.int .i64 0)).setCell ⟨w.heap.size, 4, none⟩ (.int .i64 0)).setCell ⟨w.heap.size, 5, none⟩ (.slice none 0 0)).setCell ⟨w.heap.size, 6, none⟩ (.slice none 0 0)) w.heap.size (.int .i64 0) (.int .i64 0) (.int .i64 0) (.int .i64 0) (.int .i64 0) (.slice none 0 0) (.slice none 0 0)) := put7_box _ _ _ _ _ _ _ Z1
  have FL : Hid (Below w.heap.size w (((((((w1.setCell ⟨w.heap.size, 0, none⟩ (.int .i64 0)).setCell ⟨w.heap.size, 1, none⟩ (.int .i64 0)).setCell ⟨w.heap.size, 2, none⟩ (.int .i64 0)).setCell ⟨w.heap.size, 3, none⟩ (.int .i64 0)).setCell ⟨w.heap.size, 4, none⟩ (.int .i64 0)).setCell ⟨w.heap.size, 5, none⟩ (.slice none 0 0)).setCell ⟨w.heap.size, 6, none⟩ (.slice none 0 0))) := put7_below _ _ _ _ _ _ _ B1 (Nat.le_refl _)
  have HP : Hid (∀ wz, Below w.heap.size w wz → Post L b dec w (.returned (.tuple #[pkv zpk (.slice none 0 0) (.slice none 0 0), .int .i64 1])) wz) := fun wz h => post_no (.inl ⟨ho, rfl, rfl⟩) h
  obtain ⟨y0, y1, y2, y3, y4, y5, y6⟩ := Z1
  obtain ⟨n, hn⟩ : ∃ n, n = L.length := ⟨_, rfl⟩
  rw [← hn] at ho ⊢
  have hcase : n > 4096 ∨ (n ≤ 4096 ∧ b < 1) ∨ (n ≤ 4096 ∧ 1 ≤ b ∧ 24 < b) ∨ (n ≤ 4096 ∧ 1 ≤ b ∧ b ≤ 24 ∧ dec < -3) ∨ (n ≤ 4096 ∧ 1 ≤ b ∧ b ≤ 24 ∧ -3 ≤ dec ∧ 6 < dec) := by
    unfold okA at ho
    simp only [Bool.and_eq_false_iff, decide_eq_false_iff_not] at ho
    omega
  clear hw1 hR hn B1 ho
  rcases hcase with h | ⟨h, h1⟩ | ⟨h, h1, h2⟩ | ⟨h, h1, h2, h3⟩ | ⟨h, h1, h2, h3, h4⟩
  · have l1 : (4096 : Int) < (n : Int) := by omega
    go_enter Try.func5, Try.ntmps5
    go_upto_region 1 with fail
    rw [← HW.out]
    go_wp2_with fail
    generalize World.setCell _ _ _ = wz at FX FL ⊢
    obtain ⟨z0, z1, z2, z3, z4, z5, z6⟩ := FX.out
    exact bodyPost_ret (v := .tuple #[pkv zpk (.slice none 0 0) (.slice none 0 0), .int .i64 1]) (by simp [results, Try.results5, go_sem, pkv, zpk, z0, z1, z2, z3, z4, z5, z6]) rfl (HP.out _ FL.out)
  all_goals (
    have l1 : ((n : Int) ≤ 4096) := by omega
    go_enter Try.func5, Try.ntmps5
    go_upto_region 1 with fail
    rw [← HW.out]
    go_wp2_with fail
    generalize World.setCell _ _ _ = wz at FX FL ⊢
    obtain ⟨z0, z1, z2, z3, z4, z5, z6⟩ := FX.out
    exact bodyPost_ret (v := .tuple #[pkv zpk (.slice none 0 0) (.slice none 0 0), .int .i64 1]) (by simp [results, Try.results5, go_sem, pkv, zpk, z0, z1, z2, z3, z4, z5, z6]) rfl (HP.out _ FL.out))

end Go.Proofs.Ytgajajpcjbpalaa.Pkd
