/- DrawRemap. -/
import Derived.Test.YtlcbahlplablmaaEg
import Derived.BigRegion
import Derived.Lib.SliceRun
import Derived.Deep.Cut
import Derived.Deep.DeepCutAuto
import Derived.Deep.RegionHeld3
namespace Go.Proofs.Ytlcbahlplablmaa.Rm
open Go.ChangeShapes Go.WideShapes Go.ChangeAt Go.RowKit
open Go.Proofs.Ytlcbahlplablmaa.Lists Go.Proofs.Ytlcbahlplablmaa.Rd
theorem row_grown {w w' : World} {base n k : Nat} {e : TypeId} {v : Value} {xs : List Value} {row : Option Nat} (h : w.ownsRow base e k v n xs) (hg : w.grownBy w' row) (hne : ∀ g, v.ownBlock = some g → row ≠ some g) : w'.ownsRow base e k v n xs := by
  refine ⟨h.1, ?_⟩
  have hlt := h.lt
  rcases h.2 with h2 | ⟨g, cap, cur, h1, h2, h3, h4⟩
  · exact .inl h2
  · have ho : v.ownBlock = some g := by rw [h1]; rfl
    exact .inr ⟨g, cap, cur, h1, h2, (hg.block g (hlt g ho).2 (fun e => hne g ho e.symm)).trans h3, h4⟩
theorem row_alloc {w : World} {base n k : Nat} {e : TypeId} {v : Value} {xs : List Value} (h : w.ownsRow base e k v n xs) (o : Obj) : (w.alloc o).ownsRow base e k v n xs := by
  refine ⟨h.1, ?_⟩
  have hlt := h.lt
  have hb := (Below.refl w.heap.size w).alloc (Nat.le_refl _) o
  rcases h.2 with h2 | ⟨g, cap, cur, h1, h2, h3, h4⟩
  · exact .inl h2
  · have ho : v.ownBlock = some g := by rw [h1]; rfl
    exact .inr ⟨g, cap, cur, h1, h2, (hb.block g (hlt g ho).2).trans h3, h4⟩
theorem row_turn2 {r B n : Nat} {w w' : World} {v : Value} {xs : List Value} (h : w.ownsRow B 2 1 v n xs) (t : Turn r w w') (hr : r < B) : w'.ownsRow B 2 1 v n xs := row_turn h t hr
theorem row_down {w : World} {B B' n k : Nat} {e : TypeId} {v : Value} {xs : List Value} (h : w.ownsRow B e k v n xs) (hb : B' ≤ B) : w.ownsRow B' e k v n xs := by
  refine ⟨h.1, ?_⟩
  rcases h.2 with h2 | ⟨g, cap, cur, h1, h2, h3⟩
  · exact .inl h2
  · exact .inr ⟨g, cap, cur, h1, Nat.le_trans hb h2, h3⟩
theorem row_news {w : World} {base b c : Nat} {x : Int} (h : w.ownsRow base 2 1 (.slice (some ⟨b, 0, none⟩) 1 c) 1 [.int .i64 x]) : ∀ j u, [Value.int .i64 x][j]? = some u → w.cell? ((⟨b, 0, none⟩ : Addr).add j) = some u := by
  intro j u hj
  match j, hj with
  | 0, hj =>
    have := h.cellAt 0 (by omega)
    simp at hj
    subst hj
    simpa [Addr.add] using this
theorem grown_cell {w w' : World} {row : Option Nat} {b o : Nat} (hg : w.grownBy w' row) (hb : b < w.heap.size) (hne : row ≠ some b) : w'.cell? ⟨b, o, none⟩ = w.cell? ⟨b, o, none⟩ := by
  have h := hg.block b hb (fun e => hne e.symm)
  unfold World.cell?
  simp only [h]
theorem slice_h (a : Option Addr) (n cap q : Nat) (h : q ≤ cap) (w : World) : (Instr.slice 24 (.slice a n cap) none (some (.int .i64 (q : Int))) none).run Try.prog w = .ok (.slice a q cap) w := by
  rw [run_slice_h w 24 a n cap Try.underlying24 .i64 (q : Int) (by omega) (by omega)]
  simp [sliced, go_sem]
/-- the reader, what is below, two lists apart -/
structure TR (r : Nat) (w wx : World) (ve va : Value) (E A : List Int) : Prop where
  rd : Rd r wx
  bl : Below w.heap.size w wx
  wr : w.heap.size ≤ r
  e : wx.ownsRow (r + 1) 2 1 ve E.length (ints E)
  a : wx.ownsRow (r + 1) 2 1 va A.length (ints A)
  d : ∀ g, ve.ownBlock = some g → va.ownBlock ≠ some g
theorem TR.turn {r : Nat} {w wx w' : World} {ve va : Value} {E A : List Int} (h : TR r w wx ve va E A) (t : Turn r wx w') (k : Rd r w') : TR r w w' ve va E A :=
  ⟨k, Turn.below h.bl h.wr t, h.wr, row_turn2 h.e t (by omega), row_turn2 h.a t (by omega), h.d⟩
theorem TR.drew {r : Nat} {w wx : World} {ve va : Value} {E A : List Int} (h : TR r w wx ve va E A) : TR r w wx.drew ve va E A :=
  ⟨h.rd.drewN 1, h.bl.drew, h.wr, h.e, h.a, h.d⟩
theorem TR.alloc {r : Nat} {w wx : World} {ve va : Value} {E A : List Int} (h : TR r w wx ve va E A) (o : Obj) : TR r w (wx.alloc o) ve va E A :=
  ⟨h.rd.kept ((Below.refl (r + 1) wx).alloc (by have := h.rd.lt; omega) _) (by omega), h.bl.alloc h.bl.size _, h.wr, row_alloc h.e o, row_alloc h.a o, h.d⟩
theorem TR.grown {r b : Nat} {w wx w' : World} {ve va : Value} {E A : List Int} (h : TR r w wx ve va E A) (hg : wx.grownBy w' (some b)) (hb : r < b) (he : ve.ownBlock ≠ some b) (ha : va.ownBlock ≠ some b) : TR r w w' ve va E A := by
  have hw := h.wr
  have hr := h.rd.lt
  have kb : Below (r + 1) wx w' := (Below.refl (r + 1) wx).grown hg (by omega) (fun c hc => by simp at hc; omega)
  exact ⟨h.rd.kept kb (by omega), h.bl.trans (kb.mono (by omega)), hw, row_grown h.e hg (fun g x y => by simp at y; subst y; exact he x), row_grown h.a hg (fun g x y => by simp at y; subst y; exact ha x), h.d⟩
theorem TR.app {r g m cap : Nat} {w wx w' : World} {ve va : Value} {E A A' : List Int} (h : TR r w wx ve va E A) (o : Obj) (hown : w'.ownsRow (r + 1) 2 1 (.slice (some ⟨g, 0, none⟩) m cap) m (ints A')) (hg : (wx.alloc o).grownBy w' va.ownBlock) (hat : va.ownBlock = some g ∨ g = wx.heap.size + 1) (hm : A'.length = m) : TR r w w' ve (.slice (some ⟨g, 0, none⟩) m cap) E A' := by
  have hw := h.wr
  have hr := h.rd.lt
  have T' := h.alloc o
  have kb : Below (r + 1) (wx.alloc o) w' := (Below.refl (r + 1) (wx.alloc o)).grown hg (by simp; omega) (fun c hc => (h.a.lt c hc).1)
  refine ⟨T'.rd.kept kb (by omega), T'.bl.trans (kb.mono (by omega)), hw, row_grown T'.e hg (fun g' x y => h.d g' x y), by rw [hm]; exact hown, fun g' x y => ?_⟩
  have y' : g = g' := by simpa [Value.ownBlock] using y
  subst y'
  rcases hat with hat | hat
  · exact h.d g x hat
  · have := (h.e.lt g x).2
    omega
/-- three lists, apart -/
structure DR (r : Nat) (w wx : World) (ve va vt : Value) (E A T : List Int) : Prop where
  tr : TR r w wx ve va E A
  t : wx.ownsRow (r + 1) 2 1 vt T.length (ints T)
  d2 : ∀ g, vt.ownBlock = some g → ve.ownBlock ≠ some g ∧ va.ownBlock ≠ some g
theorem DR.turn {r : Nat} {w wx w' : World} {ve va vt : Value} {E A T : List Int} (h : DR r w wx ve va vt E A T) (t : Turn r wx w') (k : Rd r w') : DR r w w' ve va vt E A T := ⟨h.tr.turn t k, row_turn2 h.t t (by omega), h.d2⟩

theorem set_other {w : World} {base n k g o : Nat} {e : TypeId} {v u : Value} {xs : List Value} (h : w.ownsRow base e k v n xs) (hne : v.ownBlock ≠ some g) : (w.setCell ⟨g, o, none⟩ u).ownsRow base e k v n xs :=
  row_grown h (Lists.grown_setCell (World.grownBy.refl w (some g)) o u) (fun g' hg' e => by simp at e; subst e; exact hne hg')
theorem set_own {w : World} {base n g c o : Nat} {L : List Int} {x : Int} (hn : n = L.length) (h : w.ownsRow base 2 1 (.slice (some ⟨g, 0, none⟩) n c) L.length (ints L)) : (w.setCell ⟨g, o, none⟩ (.int .i64 x)).ownsRow base 2 1 (.slice (some ⟨g, 0, none⟩) n c) (L.set o x).length (ints (L.set o x)) := by
  subst hn
  rw [List.length_set, ← Lists.ints_set]
  exact (h.stored o _).1
theorem set_rest {r g o : Nat} {w wx : World} {u : Value} (k : Rd r wx) (b : Below w.heap.size w wx) (hw : w.heap.size ≤ r) (hg : r < g) : Rd r (wx.setCell ⟨g, o, none⟩ u) ∧ Below w.heap.size w (wx.setCell ⟨g, o, none⟩ u) :=
  ⟨k.kept ((Below.refl (r + 1) wx).setCell (p := ⟨g, o, none⟩) (by show r + 1 ≤ g; omega) _) (by omega), b.setCell (p := ⟨g, o, none⟩) (by show w.heap.size ≤ g; omega) _⟩
theorem DR.seta {r g n c o : Nat} {w wx : World} {ve vt : Value} {E A T : List Int} (h : DR r w wx ve (.slice (some ⟨g, 0, none⟩) n c) vt E A T) (hn : n = A.length) (x : Int) : DR r w (wx.setCell ⟨g, o, none⟩ (.int .i64 x)) ve (.slice (some ⟨g, 0, none⟩) n c) vt E (A.set o x) T := by
  obtain ⟨k, b⟩ := set_rest (o := o) (u := .int .i64 x) h.tr.rd h.tr.bl h.tr.wr (h.tr.a.lt g rfl).1
  exact ⟨⟨k, b, h.tr.wr, set_other h.tr.e (fun e => h.tr.d g e rfl), set_own hn h.tr.a, h.tr.d⟩, set_other h.t (fun e => (h.d2 g e).2 rfl), h.d2⟩
theorem DR.sete {r g n c o : Nat} {w wx : World} {va vt : Value} {E A T : List Int} (h : DR r w wx (.slice (some ⟨g, 0, none⟩) n c) va vt E A T) (hn : n = E.length) (x : Int) : DR r w (wx.setCell ⟨g, o, none⟩ (.int .i64 x)) (.slice (some ⟨g, 0, none⟩) n c) va vt (E.set o x) A T := by
  obtain ⟨k, b⟩ := set_rest (o := o) (u := .int .i64 x) h.tr.rd h.tr.bl h.tr.wr (h.tr.e.lt g rfl).1
  exact ⟨⟨k, b, h.tr.wr, set_own hn h.tr.e, set_other h.tr.a (fun e => h.tr.d g rfl e), h.tr.d⟩, set_other h.t (fun e => (h.d2 g e).1 rfl), h.d2⟩
theorem DR.sett {r g n c o : Nat} {w wx : World} {ve va : Value} {E A T : List Int} (h : DR r w wx ve va (.slice (some ⟨g, 0, none⟩) n c) E A T) (hn : n = T.length) (x : Int) : DR r w (wx.setCell ⟨g, o, none⟩ (.int .i64 x)) ve va (.slice (some ⟨g, 0, none⟩) n c) E A (T.set o x) := by
  obtain ⟨k, b⟩ := set_rest (o := o) (u := .int .i64 x) h.tr.rd h.tr.bl h.tr.wr (h.t.lt g rfl).1
  exact ⟨⟨k, b, h.tr.wr, set_other h.tr.e (fun e => (h.d2 g rfl).1 e), set_other h.tr.a (fun e => (h.d2 g rfl).2 e), h.tr.d⟩, set_own hn h.t, h.d2⟩
theorem DR.alloc {r : Nat} {w wx : World} {ve va vt : Value} {E A T : List Int} (h : DR r w wx ve va vt E A T) (o : Obj) : DR r w (wx.alloc o) ve va vt E A T := ⟨h.tr.alloc o, row_alloc h.t o, h.d2⟩
theorem DR.drew {r : Nat} {w wx : World} {ve va vt : Value} {E A T : List Int} (h : DR r w wx ve va vt E A T) : DR r w wx.drew ve va vt E A T := ⟨h.tr.drew, h.t, h.d2⟩
theorem DR.fin {r : Nat} {w wx : World} {ve va vt : Value} {E A T : List Int} (h : DR r w wx ve va vt E A T) : Lists.Reads wx ve E ∧ Lists.Reads wx va A ∧ Lists.Reads wx vt T ∧ Below w.heap.size w wx := ⟨Lists.reads_row h.tr.e, Lists.reads_row h.tr.a, Lists.reads_row h.t, h.tr.bl⟩
theorem lit3 {r : Nat} {w w' : World} (a b c z : Int) (t : Turn r (w.alloc (.cells #[.int .i64 a, .int .i64 b, .int .i64 c] 2)) w') (hr : r < w.heap.size) (h0 : 0 ≤ z) (h1 : z < 3) : ∃ q : Int, w'.cell? ⟨w.heap.size, z.toNat, none⟩ = some (.int .i64 q) := by
  have h : z = 0 ∨ z = 1 ∨ z = 2 := by omega
  have e := t.cell (b := w.heap.size) z.toNat (by simp) (by omega)
  rw [e]
  rcases h with rfl | rfl | rfl
  · exact ⟨a, by simp [go_sem]⟩
  · exact ⟨b, by simp [go_sem]⟩
  · exact ⟨c, by simp [go_sem]⟩

set_option maxRecDepth 20000 in
set_option maxHeartbeats 2000000 in
theorem drawremap_any (a : Option Addr) (n0 cap : Nat) (w : World) (hc : Go.Proofs.Ytlcbahlplablmaa.Rd.Code w a n0 cap) (hn0 : n0 ≤ 1048576) : Calls Try.prog 5 #[.slice a n0 cap] w fun e w' => ∃ ve va vt E A T, e = .returned (.tuple #[ve, va, vt]) ∧ Lists.Reads w' ve E ∧ Lists.Reads w' va A ∧ Lists.Reads w' vt T ∧ E.length ≤ 30 ∧ A.length ≤ 30 ∧ (1 ≤ T.length ∧ T.length ≤ 30) ∧ Below w.heap.size w w' := by
  have O : Hid (Calls Try.prog 10 #[.slice a n0 cap] w fun e w' => e = .returned (.pointer (some ⟨w.heap.size, 0, none⟩)) ∧ w' = w.alloc (.cells #[.slice a n0 cap, .int .i64 0] 41)) := open_any _ a n0 cap rfl w
  have K0 : Hid (Rd w.heap.size (w.alloc (.cells #[.slice a n0 cap, .int .i64 0] 41))) := Rd.new hc hn0 (Below.refl _ _)
  have B0 : Hid (Below w.heap.size w (w.alloc (.cells #[.slice a n0 cap, .int .i64 0] 41))) := (Below.refl _ _).alloc (Nat.le_refl _) _
  obtain ⟨i0, hi, hz0, hz1, hz2⟩ := info_parts Lists.Try.info2
  clear hc
  go_enter Try.func5, Try.ntmps5
  go_wp2_with fail
  refine O.out.mono ?_
  rintro e w1 ⟨rfl, hw⟩
  rw [← hw] at K0 B0
  clear hw O
  obtain ⟨r, hr0⟩ : ∃ r, r = w.heap.size := ⟨_, rfl⟩
  rw [← hr0] at K0 ⊢
  have hwr : w.heap.size ≤ r := by omega
  clear hr0
  go_wp2_with fail
  refine (edges_any r w1 K0.out).mono ?_
  rintro e w2 ⟨ve, E, rfl, rowE, lE, bE, k2, t2⟩
  have HBE : Hid (∀ x ∈ E, -20 ≤ x ∧ x ≤ 1000) := bE
  have r1 := K0.out.lt
  have T2 : Hid (TR r w (w2.alloc (.cells #[] 2)) ve (.slice (some ⟨w2.heap.size, 0, none⟩) 0 0) E []) := (by
    have hb2 := Turn.below B0.out hwr t2
    have z2 := t2.size
    refine ⟨k2.kept ((Below.refl (r + 1) w2).alloc (by have := k2.lt; omega) _) (by omega), hb2.alloc hb2.size _, hwr, row_alloc (row_down rowE (by omega)) _, World.ownsRow_lit w2 #[] 0 (by omega) (Nat.zero_le _) rfl, fun g hg x => ?_⟩
    have := (rowE.lt g hg).2
    simp [Value.ownBlock] at x
    omega)
  obtain ⟨ge, ce, hv⟩ : ∃ g cp, ve = .slice (some ⟨g, 0, none⟩) E.length cp := by
    rcases row_cases rowE with ⟨e, _⟩ | ⟨g, cap, e, _⟩
    · rw [e] at lE; simp at lE
    · exact ⟨g, cap, e⟩
  subst hv
  obtain ⟨ne, hne⟩ : ∃ ne, ne = E.length := ⟨_, rfl⟩
  have HNE : Hid (ne = E.length) := hne
  rw [← hne] at T2 lE ⊢
  clear k2 t2 rowE bE hne K0 B0 r1
  go_wp2_with fail
  go_loopw [7, 8] (fun v i wr => ∃ (k : Nat) (A : List Int), k + 1 ≤ ne ∧ i = .int .i64 k ∧ A.length = k ∧ Hid (TR r w wr (.slice (some ⟨ge, 0, none⟩) ne ce) v E A)) (fun _ i _ => ne - (intOf i).toNat)
  case atStart => exact ⟨0, [], by omega, rfl, rfl, T2⟩
  case round =>
    clear T2
    obtain ⟨k, A, hk, rfl, hA, TT⟩ := hrel
    obtain ⟨v, hv⟩ : ∃ v, v = u7 := ⟨_, rfl⟩
    subst hv
    have e1 : IntKind.i64.wrap ((k : Int) + 1) = (k : Int) + 1 := IntWalk.i64_in _ (by omega)
    obtain ⟨sa, sc, hv⟩ : ∃ a c, v = .slice a k c := by
      obtain ⟨a, c, e⟩ := (Lists.reads_row TT.out.a).form
      rw [hA] at e
      exact ⟨a, c, e⟩
    subst hv
    by_cases hlt : k + 1 < ne
    · have i2 : (k : Int) + 1 < (ne : Int) := by omega
      go_wp2_with fail
      refine (below_all r _ TT.out.rd 1000 (by omega) (by omega)).mono ?_
      rintro e w4 ⟨⟨q, ⟨hq1, hq2⟩, rfl⟩, kk, tt⟩
      have T4 : Hid (TR r w w4 (.slice (some ⟨ge, 0, none⟩) ne ce) (.slice sa k sc) E A) := TT.out.turn tt kk
      have R4 := T4.out.a
      rw [hA] at R4
      have z4 := T4.out.rd.lt
      clear kk tt TT
      go_wp2_with (at_builtin; refine wpList_append_lies _ rfl _ _ 24 rfl (r + 1) 2 i0 (.int .i64 0) 1 8 Try.underlying24 hi hz0 hz1 hz2 rfl (by decide) _ _ _ rfl (R4.alloc _) ⟨w4.heap.size, 0, none⟩ 1 1 [.int .i64 q] rfl rfl (cell_one_new w4 _ 2) (by intro u hu; simp at hu; subst hu; rfl) (by decide) (by unfold maxLen; omega) (by omega) (by simp; omega) (w4.heap.size + 1) (by simp) ?_)
      intro g2 cap2 w5 hown hgrow hat _
      have hA5 : (A ++ [q]).length = k + 1 := by simp [hA]
      have T5 : Hid (TR r w w5 (.slice (some ⟨ge, 0, none⟩) ne ce) (.slice (some ⟨g2, 0, none⟩) (k + 1) cap2) E (A ++ [q])) := T4.out.app _ (by rw [ints_snoc]; exact hown) hgrow hat hA5
      clear hown hgrow hat T4 R4
      generalize A ++ [q] = A5 at *
      go_wp2_with fail
      go_roundw
      case rel => exact ⟨k + 1, A5, by omega, by go_num, hA5, T5⟩
      case measure => simp [intOf]; omega
    · have hk' : k + 1 = ne := by omega
      have j1 : ¬ (k : Int) + 1 < (ne : Int) := by omega
      obtain ⟨ga, ca, hv⟩ : ∃ g cp, sa = some ⟨g, 0, none⟩ ∧ cp = sc := by
        rcases row_cases TT.out.a with ⟨e, _⟩ | ⟨g, cap, e, _⟩
        · rw [e] at hA; simp at hA; omega
        · simp at e; exact ⟨g, cap, e.1, e.2.2.symm⟩
      obtain ⟨hv, hv2⟩ := hv
      subst hv hv2
      go_wp2_with fail
      refine (edges_any r wr TT.out.rd).mono ?_
      rintro e w4 ⟨vt, L, rfl, rowL, lL, bL, k4, t4⟩
      have D4 : Hid (DR r w w4 (.slice (some ⟨ge, 0, none⟩) ne ce) (.slice (some ⟨ga, 0, none⟩) k ca) vt E A L) := (by
        refine ⟨TT.out.turn t4 k4, row_down rowL (by have := TT.out.rd.lt; omega), fun g hg => ⟨fun x => ?_, fun x => ?_⟩⟩
        · have h1 := (rowL.lt g hg).1; have h2 := (TT.out.e.lt g x).2; omega
        · have h1 := (rowL.lt g hg).1; have h2 := (TT.out.a.lt g x).2; omega)
      obtain ⟨gt, ct, hv⟩ : ∃ g cp, vt = .slice (some ⟨g, 0, none⟩) L.length cp := by
        rcases row_cases rowL with ⟨e, _⟩ | ⟨g, cap, e, _⟩
        · rw [e] at lL; simp at lL
        · exact ⟨g, cap, e⟩
      subst hv
      obtain ⟨nt, hnt⟩ : ∃ nt, nt = L.length := ⟨_, rfl⟩
      have HNT : Hid (nt = L.length) := hnt
      rw [← hnt] at D4 lL ⊢
      clear k4 t4 rowL bL hnt TT
      go_wp2_with fail
      refine (once_any r _ D4.out.tr.rd 3 (by omega) (by omega)).mono ?_
      rintro e w5 ⟨⟨on, rfl⟩, kk, tt⟩
      have D5 : Hid (DR r w w5 (.slice (some ⟨ge, 0, none⟩) ne ce) (.slice (some ⟨ga, 0, none⟩) k ca) (.slice (some ⟨gt, 0, none⟩) nt ct) E A L) := D4.out.turn tt kk
      clear kk tt D4
      go_upto_if 30 with fail
      go_cut [9] (fun v wx => ∃ (g nt c : Nat) (T : List Int), v = .slice (some ⟨g, 0, none⟩) nt c ∧ nt = T.length ∧ (2 ≤ nt ∧ nt ≤ 22) ∧ Hid (DR r w wx (.slice (some ⟨ge, 0, none⟩) ne ce) (.slice (some ⟨ga, 0, none⟩) k ca) v E A T))
      case first =>
        cases on
        · go_wp2_with fail
          go_meet
          exact ⟨gt, nt, ct, L, rfl, HNT.out, by omega, D5⟩
        · have em0 : k < ne := by omega
          obtain ⟨em, hem⟩ : ∃ em, em = k := ⟨_, rfl⟩
          have rowE := D5.out.tr.e
          have rowE' : w5.ownsRow (r + 1) 2 1 (.slice (some ⟨ge, 0, none⟩) E.length ce) E.length (ints E) := by rw [← HNE.out] at rowE ⊢; exact rowE
          have c0 := row_cell rowE' 0 (by rw [← HNE.out]; omega)
          have cm := row_cell rowE' em (by rw [← HNE.out]; omega)
          have b0 := HBE.out (E.getD 0 0) (by rw [List.getD_eq_getElem?_getD, List.getElem?_eq_getElem (by rw [← HNE.out]; omega)]; exact List.getElem_mem _)
          have b1 := HBE.out (E.getD em 0) (by rw [List.getD_eq_getElem?_getD, List.getElem?_eq_getElem (by rw [← HNE.out]; omega)]; exact List.getElem_mem _)
          generalize E.getD 0 0 = y0 at *
          generalize E.getD em 0 = y1 at *
          have f1 : IntKind.i64.wrap (y0 - 3) = y0 - 3 := IntWalk.i64_in _ (by omega)
          have f2 : IntKind.i64.wrap (y1 + 2) = y1 + 2 := IntWalk.i64_in _ (by omega)
          have f3 : IntKind.i64.wrap ((ne : Int) - 1) = (em : Int) := by
            have : (ne : Int) - 1 = (em : Int) := by omega
            rw [this]; exact IntWalk.i64_in _ (by omega)
          have f4 : (0 : Int) ≤ (em : Int) := by omega
          have f5 : (em : Int) < (ne : Int) := by omega
          have f6 : (0 : Int) < (ne : Int) := by omega
          have f7 : 0 < ne := by omega
          have f8 : em < ne := by omega
          have sl : ∀ w : World, (Instr.slice 24 (.slice (some ⟨gt, 0, none⟩) nt ct) none (some (.int .i64 0)) none).run Try.prog w = .ok (.slice (some ⟨gt, 0, none⟩) 0 ct) w := fun w => slice_h _ nt ct 0 (Nat.zero_le _) w
          have Tvz : Hid (TR r w w5.drew (.slice (some ⟨ge, 0, none⟩) ne ce) (.slice (some ⟨ga, 0, none⟩) k ca) E A) := D5.out.tr.drew
          have dga : ge ≠ ga := fun h => D5.out.tr.d ge rfl (by rw [h]; rfl)
          clear rowE rowE' D5 hk' hem
          go_upto_region 10 with fail
          refine wp_region_held_drew (S := (fun w' => w'.cell? ⟨ge, 0, none⟩ = some (.int .i64 y0) ∧ w'.cell? ⟨ge, em, none⟩ = some (.int .i64 y1))) (by kernel_rfl) (by (try dsimp only); exact ⟨c0, cm⟩) (fun hHeld => ?_)
          refine wpAnyH_take (i := 0) (oi := { dst := some 31, op := Go.Op.move (Go.Operand.tmp 6), type := 24, pos := "l11_fields.go:217", after := #[], guard := none }) (v := ?_) rfl (by kernel_rfl) (by kernel_rfl) (by kernel_rfl) (fun _ _ _ h => h) (Or.inl ⟨by rfl, ?_⟩) (by assumption) ?_
          rotate_left 1
          · (intro w hSw; (try dsimp only at hSw); go_simp); all_goals (with_reducible rfl)
          try simp only [Act.put, List.setIfInBounds_toArray, List.set_cons_zero, List.set_cons_succ]
          refine wpAnyH_take (i := 1) (oi := { dst := some 32, op := Go.Op.indexAddr 24 (Go.Operand.tmp 31) (Go.Operand.const (Go.Value.int Go.IntKind.i64 0)), type := 0, pos := "l11_fields.go:217", after := #[{ on := 0, ground := Go.Ground.data }], guard := none }) (v := ?_) rfl (by kernel_rfl) (by kernel_rfl) (by kernel_rfl) (fun _ _ _ h => h) (Or.inl ⟨by rfl, ?_⟩) (by assumption) ?_
          rotate_left 1
          · (intro w hSw; (try dsimp only at hSw); go_simp); all_goals (with_reducible rfl)
          try simp only [Act.put, List.setIfInBounds_toArray, List.set_cons_zero, List.set_cons_succ]
          refine wpAnyH_take (i := 2) (oi := { dst := some 33, op := Go.Op.load 2 (Go.Operand.tmp 32), type := 2, pos := "l11_fields.go:217", after := #[{ on := 1, ground := Go.Ground.data }], guard := none }) (v := ?_) rfl (by kernel_rfl) (by kernel_rfl) (by kernel_rfl) (fun _ _ _ h => h) (Or.inl ⟨by rfl, ?_⟩) (by assumption) ?_
          rotate_left 1
          · (intro w hSw; (try dsimp only at hSw); go_simp); all_goals (with_reducible rfl)
          try simp only [Act.put, List.setIfInBounds_toArray, List.set_cons_zero, List.set_cons_succ]
          refine wpAnyH_take (i := 3) (oi := { dst := some 34, op := Go.Op.binOp Go.BinOp.sub 2 (Go.Operand.tmp 33) (Go.Operand.const (Go.Value.int Go.IntKind.i64 3)) 2, type := 2, pos := "l11_fields.go:217", after := #[{ on := 2, ground := Go.Ground.data }], guard := none }) (v := ?_) rfl (by kernel_rfl) (by kernel_rfl) (by kernel_rfl) (fun _ _ _ h => h) (Or.inl ⟨by rfl, ?_⟩) (by assumption) ?_
          rotate_left 1
          · (intro w hSw; (try dsimp only at hSw); go_simp); all_goals (with_reducible rfl)
          try simp only [Act.put, List.setIfInBounds_toArray, List.set_cons_zero, List.set_cons_succ]
          refine wpAnyH_take (i := 6) (oi := { dst := some 37, op := Go.Op.move (Go.Operand.tmp 9), type := 24, pos := "l11_fields.go:217", after := #[], guard := none }) (v := ?_) rfl (by kernel_rfl) (by kernel_rfl) (by kernel_rfl) (fun _ _ _ h => h) (Or.inl ⟨by rfl, ?_⟩) (by assumption) ?_
          rotate_left 1
          · (intro w hSw; (try dsimp only at hSw); go_simp); all_goals (with_reducible rfl)
          try simp only [Act.put, List.setIfInBounds_toArray, List.set_cons_zero, List.set_cons_succ]
          refine wpAnyH_take (i := 7) (oi := { dst := some 38, op := Go.Op.slice 24 (Go.Operand.tmp 37) none (some (Go.Operand.const (Go.Value.int Go.IntKind.i64 0))) none, type := 24, pos := "l11_fields.go:217", after := #[{ on := 6, ground := Go.Ground.data }], guard := none }) (v := ?_) rfl (by kernel_rfl) (by kernel_rfl) (by kernel_rfl) (fun _ _ _ h => h) (Or.inl ⟨by rfl, ?_⟩) (by assumption) ?_
          rotate_left 1
          · (intro w hSw; (try dsimp only at hSw); go_simp); all_goals (with_reducible rfl)
          try simp only [Act.put, List.setIfInBounds_toArray, List.set_cons_zero, List.set_cons_succ]
          refine wpAnyH_take (i := 9) (oi := { dst := some 40, op := Go.Op.move (Go.Operand.tmp 6), type := 24, pos := "l11_fields.go:217", after := #[], guard := none }) (v := ?_) rfl (by kernel_rfl) (by kernel_rfl) (by kernel_rfl) (fun _ _ _ h => h) (Or.inl ⟨by rfl, ?_⟩) (by assumption) ?_
          rotate_left 1
          · (intro w hSw; (try dsimp only at hSw); go_simp); all_goals (with_reducible rfl)
          try simp only [Act.put, List.setIfInBounds_toArray, List.set_cons_zero, List.set_cons_succ]
          refine wpAnyH_take (i := 10) (oi := { dst := some 41, op := Go.Op.move (Go.Operand.tmp 6), type := 24, pos := "l11_fields.go:217", after := #[], guard := none }) (v := ?_) rfl (by kernel_rfl) (by kernel_rfl) (by kernel_rfl) (fun _ _ _ h => h) (Or.inl ⟨by rfl, ?_⟩) (by assumption) ?_
          rotate_left 1
          · (intro w hSw; (try dsimp only at hSw); go_simp); all_goals (with_reducible rfl)
          try simp only [Act.put, List.setIfInBounds_toArray, List.set_cons_zero, List.set_cons_succ]
          refine wpAnyH_take (i := 11) (oi := { dst := some 42, op := Go.Op.call { callee := Go.Callee.builtin Go.Builtin.len, args := #[Go.Operand.tmp 41], argTypes := #[24] }, type := 3, pos := "l11_fields.go:217", after := #[{ on := 10, ground := Go.Ground.data }], guard := none }) (v := ?_) rfl (by kernel_rfl) (by kernel_rfl) (by kernel_rfl) (fun _ _ _ h => h) (Or.inl ⟨by rfl, ?_⟩) (by assumption) ?_
          rotate_left 1
          · (intro w hSw; (try dsimp only at hSw); go_simp); all_goals (with_reducible rfl)
          try simp only [Act.put, List.setIfInBounds_toArray, List.set_cons_zero, List.set_cons_succ]
          refine wpAnyH_take (i := 12) (oi := { dst := some 43, op := Go.Op.binOp Go.BinOp.sub 3 (Go.Operand.tmp 42) (Go.Operand.const (Go.Value.int Go.IntKind.i64 1)) 3, type := 3, pos := "l11_fields.go:217", after := #[{ on := 11, ground := Go.Ground.data }], guard := none }) (v := ?_) rfl (by kernel_rfl) (by kernel_rfl) (by kernel_rfl) (fun _ _ _ h => h) (Or.inl ⟨by rfl, ?_⟩) (by assumption) ?_
          rotate_left 1
          · (intro w hSw; (try dsimp only at hSw); go_simp); all_goals (with_reducible rfl)
          try simp only [Act.put, List.setIfInBounds_toArray, List.set_cons_zero, List.set_cons_succ]
          refine wpAnyH_take (i := 13) (oi := { dst := some 44, op := Go.Op.indexAddr 24 (Go.Operand.tmp 40) (Go.Operand.tmp 43), type := 0, pos := "l11_fields.go:217", after := #[{ on := 9, ground := Go.Ground.data }, { on := 12, ground := Go.Ground.data }], guard := none }) (v := ?_) rfl (by kernel_rfl) (by kernel_rfl) (by kernel_rfl) (fun _ _ _ h => h) (Or.inl ⟨by rfl, ?_⟩) (by assumption) ?_
          rotate_left 1
          · (intro w hSw; (try dsimp only at hSw); go_simp); all_goals (with_reducible rfl)
          try simp only [Act.put, List.setIfInBounds_toArray, List.set_cons_zero, List.set_cons_succ]
          refine wpAnyH_take (i := 14) (oi := { dst := some 45, op := Go.Op.load 2 (Go.Operand.tmp 44), type := 2, pos := "l11_fields.go:217", after := #[{ on := 13, ground := Go.Ground.data }], guard := none }) (v := ?_) rfl (by kernel_rfl) (by kernel_rfl) (by kernel_rfl) (fun _ _ _ h => h) (Or.inl ⟨by rfl, ?_⟩) (by assumption) ?_
          rotate_left 1
          · (intro w hSw; (try dsimp only at hSw); go_simp); all_goals (with_reducible rfl)
          try simp only [Act.put, List.setIfInBounds_toArray, List.set_cons_zero, List.set_cons_succ]
          refine wpAnyH_take (i := 15) (oi := { dst := some 46, op := Go.Op.binOp Go.BinOp.add 2 (Go.Operand.tmp 45) (Go.Operand.const (Go.Value.int Go.IntKind.i64 2)) 2, type := 2, pos := "l11_fields.go:217", after := #[{ on := 14, ground := Go.Ground.data }], guard := none }) (v := ?_) rfl (by kernel_rfl) (by kernel_rfl) (by kernel_rfl) (fun _ _ _ h => h) (Or.inl ⟨by rfl, ?_⟩) (by assumption) ?_
          rotate_left 1
          · (intro w hSw; (try dsimp only at hSw); go_simp); all_goals (with_reducible rfl)
          try simp only [Act.put, List.setIfInBounds_toArray, List.set_cons_zero, List.set_cons_succ]
          generalize w5.drew = vz at hHeld Tvz ⊢
          refine wpAnyH_ready (rs := [4, 5, 16]) (by kernel_rfl) (by simp) ?_
          refine AllReadyH.cons (o := { dst := some 35, op := Go.Op.buildSlice 24 1 #[(0, Go.Operand.tmp 34)], type := 24, pos := "l11_fields.go:217", after := #[{ on := 3, ground := Go.Ground.data }], guard := none }) rfl (fun K hK => ?_) (AllReadyH.cons (o := { dst := some 36, op := Go.Op.buildSlice 24 0 #[], type := 24, pos := "l11_fields.go:217", after := #[], guard := none }) rfl (fun K hK => ?_) (AllReadyH.cons (o := { dst := some 47, op := Go.Op.buildSlice 24 1 #[(0, Go.Operand.tmp 46)], type := 24, pos := "l11_fields.go:217", after := #[{ on := 15, ground := Go.Ground.data }], guard := none }) rfl (fun K hK => ?_) AllReadyH.nil))
          · go_simp
            refine hK.out _ _ (by (try dsimp only); go_keep) (fun hHeld2 => ?_)
            clear hK K hHeld
            have hHeld := hHeld2
            clear hHeld2
            try simp only [Act.put, List.setIfInBounds_toArray, List.set_cons_zero, List.set_cons_succ]
            have Tv1 : Hid (TR r w (vz.alloc (.cells #[.int .i64 (y0 - 3)] 2)) (.slice (some ⟨ge, 0, none⟩) ne ce) (.slice (some ⟨ga, 0, none⟩) k ca) E A) := Tvz.out.alloc (.cells #[.int .i64 (y0 - 3)] 2)
            have R4v1 : Hid ((vz.alloc (.cells #[.int .i64 (y0 - 3)] 2)).ownsRow (r + 1) 2 1 (.slice (some ⟨vz.heap.size, 0, none⟩) 1 1) 1 [.int .i64 (y0 - 3)]) := World.ownsRow_lit vz #[.int .i64 (y0 - 3)] 1 (by have := Tvz.out.rd.lt; omega) (by unfold maxLen; omega) rfl
            have lt4 : ge < vz.heap.size ∧ ga < vz.heap.size ∧ r < vz.heap.size := ⟨(Tvz.out.e.lt ge rfl).2, (Tvz.out.a.lt ga rfl).2, Tvz.out.rd.lt⟩
            clear Tvz 
            generalize vz.alloc (.cells #[.int .i64 (y0 - 3)] 2) = v1 at hHeld Tv1 R4v1 ⊢
            generalize vz.heap.size = b4 at R4v1 lt4 ⊢
            refine wpAnyH_ready (rs := [5, 16]) (by kernel_rfl) (by simp) ?_
            refine AllReadyH.cons (o := { dst := some 36, op := Go.Op.buildSlice 24 0 #[], type := 24, pos := "l11_fields.go:217", after := #[], guard := none }) rfl (fun K hK => ?_) (AllReadyH.cons (o := { dst := some 47, op := Go.Op.buildSlice 24 1 #[(0, Go.Operand.tmp 46)], type := 24, pos := "l11_fields.go:217", after := #[{ on := 15, ground := Go.Ground.data }], guard := none }) rfl (fun K hK => ?_) AllReadyH.nil)
            · go_simp
              refine hK.out _ _ (by (try dsimp only); go_keep) (fun hHeld2 => ?_)
              clear hK K hHeld
              have hHeld := hHeld2
              clear hHeld2
              try simp only [Act.put, List.setIfInBounds_toArray, List.set_cons_zero, List.set_cons_succ]
              have Tv2 : Hid (TR r w (v1.alloc (.cells #[] 2)) (.slice (some ⟨ge, 0, none⟩) ne ce) (.slice (some ⟨ga, 0, none⟩) k ca) E A) := Tv1.out.alloc (.cells #[] 2)
              have R4v2 : Hid ((v1.alloc (.cells #[] 2)).ownsRow (r + 1) 2 1 (.slice (some ⟨b4, 0, none⟩) 1 1) 1 [.int .i64 (y0 - 3)]) := row_alloc R4v1.out (.cells #[] 2)
              have R5v2 : Hid ((v1.alloc (.cells #[] 2)).ownsRow (r + 1) 2 1 (.slice (some ⟨v1.heap.size, 0, none⟩) 0 0) 0 []) := World.ownsRow_lit v1 #[] 0 (by have := Tv1.out.rd.lt; omega) (by unfold maxLen; omega) rfl
              have lt5 : ge < v1.heap.size ∧ ga < v1.heap.size ∧ r < v1.heap.size := ⟨(Tv1.out.e.lt ge rfl).2, (Tv1.out.a.lt ga rfl).2, Tv1.out.rd.lt⟩
              have lt5_4 : b4 < v1.heap.size := (R4v1.out.lt b4 rfl).2
              clear Tv1 R4v1
              generalize v1.alloc (.cells #[] 2) = v2 at hHeld Tv2 R4v2 R5v2 ⊢
              generalize v1.heap.size = b5 at R5v2 lt5 lt5_4 ⊢
              refine wpAnyH_ready (rs := [8, 16]) (by kernel_rfl) (by simp) ?_
              refine AllReadyH.cons (o := { dst := some 39, op := Go.Op.call { callee := Go.Callee.builtin Go.Builtin.append, args := #[Go.Operand.tmp 36, Go.Operand.tmp 38], argTypes := #[24, 24] }, type := 24, pos := "l11_fields.go:217", after := #[{ on := 5, ground := Go.Ground.data }, { on := 7, ground := Go.Ground.data }], guard := none }) rfl (fun K hK => ?_) (AllReadyH.cons (o := { dst := some 47, op := Go.Op.buildSlice 24 1 #[(0, Go.Operand.tmp 46)], type := 24, pos := "l11_fields.go:217", after := #[{ on := 15, ground := Go.Ground.data }], guard := none }) rfl (fun K hK => ?_) AllReadyH.nil)
              · go_simp
                refine hK.out _ _ (by (try dsimp only); exact hHeld) (fun hHeld2 => ?_)
                clear hK K hHeld
                have hHeld := hHeld2
                clear hHeld2
                try simp only [Act.put, List.setIfInBounds_toArray, List.set_cons_zero, List.set_cons_succ]
                refine wpAnyH_ready (rs := [16]) (by kernel_rfl) (by simp) ?_
                refine AllReadyH.cons (o := { dst := some 47, op := Go.Op.buildSlice 24 1 #[(0, Go.Operand.tmp 46)], type := 24, pos := "l11_fields.go:217", after := #[{ on := 15, ground := Go.Ground.data }], guard := none }) rfl (fun K hK => ?_) AllReadyH.nil
                go_simp
                refine hK.out _ _ (by (try dsimp only); go_keep) (fun hHeld2 => ?_)
                clear hK K hHeld
                have hHeld := hHeld2
                clear hHeld2
                try simp only [Act.put, List.setIfInBounds_toArray, List.set_cons_zero, List.set_cons_succ]
                have Tv3 : Hid (TR r w (v2.alloc (.cells #[.int .i64 (y1 + 2)] 2)) (.slice (some ⟨ge, 0, none⟩) ne ce) (.slice (some ⟨ga, 0, none⟩) k ca) E A) := Tv2.out.alloc (.cells #[.int .i64 (y1 + 2)] 2)
                have R4v3 : Hid ((v2.alloc (.cells #[.int .i64 (y1 + 2)] 2)).ownsRow (r + 1) 2 1 (.slice (some ⟨b4, 0, none⟩) 1 1) 1 [.int .i64 (y0 - 3)]) := row_alloc R4v2.out (.cells #[.int .i64 (y1 + 2)] 2)
                have R5v3 : Hid ((v2.alloc (.cells #[.int .i64 (y1 + 2)] 2)).ownsRow (r + 1) 2 1 (.slice (some ⟨b5, 0, none⟩) 0 0) 0 []) := row_alloc R5v2.out (.cells #[.int .i64 (y1 + 2)] 2)
                have R16v3 : Hid ((v2.alloc (.cells #[.int .i64 (y1 + 2)] 2)).ownsRow (r + 1) 2 1 (.slice (some ⟨v2.heap.size, 0, none⟩) 1 1) 1 [.int .i64 (y1 + 2)]) := World.ownsRow_lit v2 #[.int .i64 (y1 + 2)] 1 (by have := Tv2.out.rd.lt; omega) (by unfold maxLen; omega) rfl
                have lt16 : ge < v2.heap.size ∧ ga < v2.heap.size ∧ r < v2.heap.size := ⟨(Tv2.out.e.lt ge rfl).2, (Tv2.out.a.lt ga rfl).2, Tv2.out.rd.lt⟩
                have lt16_4 : b4 < v2.heap.size := (R4v2.out.lt b4 rfl).2
                have lt16_5 : b5 < v2.heap.size := (R5v2.out.lt b5 rfl).2
                clear Tv2 R4v2 R5v2
                generalize v2.alloc (.cells #[.int .i64 (y1 + 2)] 2) = v3 at hHeld Tv3 R4v3 R5v3 R16v3 ⊢
                generalize v2.heap.size = b16 at R16v3 lt16 lt16_4 lt16_5 ⊢
                refine wpAnyH_ready (rs := [17]) (by kernel_rfl) (by simp) ?_
                refine AllReadyH.cons (o := { dst := some 48, op := Go.Op.call { callee := Go.Callee.builtin Go.Builtin.append, args := #[Go.Operand.tmp 39, Go.Operand.tmp 47], argTypes := #[24, 24] }, type := 24, pos := "l11_fields.go:217", after := #[{ on := 8, ground := Go.Ground.data }, { on := 16, ground := Go.Ground.data }, { on := 8, ground := Go.Ground.chain }], guard := none }) rfl (fun K hK => ?_) AllReadyH.nil
                have lq : ge < v3.heap.size ∧ ga < v3.heap.size ∧ r < v3.heap.size := ⟨(Tv3.out.e.lt ge rfl).2, (Tv3.out.a.lt ga rfl).2, Tv3.out.rd.lt⟩
                have lq4 : b4 < v3.heap.size := (R4v3.out.lt b4 rfl).2
                refine step_append_lies _ (by rfl) _ _ 24 (by rfl) (r + 1) 2 i0 (.int .i64 0) 1 8 Try.underlying24 hi hz0 hz1 hz2 rfl (by decide) _ _ _ (by rfl) R5v3.out ⟨b16, 0, none⟩ 1 1 [.int .i64 (y1 + 2)] (by rfl) rfl (row_news R16v3.out) (by intro u hu; simp at hu; subst hu; rfl) (by decide) (by unfold maxLen; omega) (by omega) (by have := Tv3.out.rd.lt; omega) v3.heap.size rfl ?_
                intro b17 c17 v4 hown hgrow hat hlt
                replace hgrow : v3.grownBy v4 (some b5) := hgrow
                replace hat : b5 = b17 ∨ b17 = v3.heap.size := (by rcases hat with h | h; exact .inl (by simpa [Value.ownBlock] using h); exact .inr h)
                refine hK.out _ _ (by (try dsimp only); exact ⟨(grown_cell hgrow lq.1 (by simp; omega)).trans hHeld.1, (grown_cell hgrow lq.1 (by simp; omega)).trans hHeld.2⟩) (fun hHeld2 => ?_)
                clear hK K hHeld
                have hHeld := hHeld2
                clear hHeld2
                try simp only [Act.put, List.setIfInBounds_toArray, List.set_cons_zero, List.set_cons_succ]
                have Tv4 : Hid (TR r w v4 (.slice (some ⟨ge, 0, none⟩) ne ce) (.slice (some ⟨ga, 0, none⟩) k ca) E A) := Tv3.out.grown hgrow (by have := R5v3.out.lt b5 rfl; omega) (by simp [Value.ownBlock]; omega) (by simp [Value.ownBlock]; omega)
                have R17v4 : Hid (v4.ownsRow (r + 1) 2 1 (.slice (some ⟨b17, 0, none⟩) 1 c17) 1 [.int .i64 (y1 + 2)]) := hown
                have R4v4 : Hid (v4.ownsRow (r + 1) 2 1 (.slice (some ⟨b4, 0, none⟩) 1 1) 1 [.int .i64 (y0 - 3)]) := row_grown R4v3.out hgrow (fun g h x => by simp [Value.ownBlock] at h x; omega)
                have lt17 : ge ≠ b17 ∧ ga ≠ b17 ∧ b4 ≠ b17 := by omega
                clear hown hgrow hat hlt Tv3 R4v3 R5v3 R16v3
                refine wpAnyH_ready (rs := [18]) (by kernel_rfl) (by simp) ?_
                refine AllReadyH.cons (o := { dst := some 49, op := Go.Op.call { callee := Go.Callee.builtin Go.Builtin.append, args := #[Go.Operand.tmp 35, Go.Operand.tmp 48], argTypes := #[24, 24] }, type := 24, pos := "l11_fields.go:217", after := #[{ on := 4, ground := Go.Ground.data }, { on := 17, ground := Go.Ground.data }, { on := 17, ground := Go.Ground.chain }], guard := none }) rfl (fun K hK => ?_) AllReadyH.nil
                have lq : ge < v4.heap.size ∧ ga < v4.heap.size ∧ r < v4.heap.size := ⟨(Tv4.out.e.lt ge rfl).2, (Tv4.out.a.lt ga rfl).2, Tv4.out.rd.lt⟩
                refine step_append_lies _ (by rfl) _ _ 24 (by rfl) (r + 1) 2 i0 (.int .i64 0) 1 8 Try.underlying24 hi hz0 hz1 hz2 rfl (by decide) _ _ _ (by rfl) R4v4.out ⟨b17, 0, none⟩ 1 c17 [.int .i64 (y1 + 2)] (by rfl) rfl (row_news R17v4.out) (by intro u hu; simp at hu; subst hu; rfl) (by decide) (by unfold maxLen; omega) (by omega) (by have := Tv4.out.rd.lt; omega) v4.heap.size rfl ?_
                intro b18 c18 v5 hown hgrow hat hlt
                replace hgrow : v4.grownBy v5 (some b4) := hgrow
                replace hat : b4 = b18 ∨ b18 = v4.heap.size := (by rcases hat with h | h; exact .inl (by simpa [Value.ownBlock] using h); exact .inr h)
                refine hK.out _ _ (by (try dsimp only); exact ⟨(grown_cell hgrow lq.1 (by simp; omega)).trans hHeld.1, (grown_cell hgrow lq.1 (by simp; omega)).trans hHeld.2⟩) (fun hHeld2 => ?_)
                clear hK K hHeld
                have hHeld := hHeld2
                clear hHeld2
                try simp only [Act.put, List.setIfInBounds_toArray, List.set_cons_zero, List.set_cons_succ]
                have Tv5 : TR r w v5 (.slice (some ⟨ge, 0, none⟩) ne ce) (.slice (some ⟨ga, 0, none⟩) k ca) E A := Tv4.out.grown hgrow (by have := R4v4.out.lt b4 rfl; omega) (by simp [Value.ownBlock]; omega) (by simp [Value.ownBlock]; omega)
                have DF : Hid (DR r w v5 (.slice (some ⟨ge, 0, none⟩) ne ce) (.slice (some ⟨ga, 0, none⟩) k ca) (.slice (some ⟨b18, 0, none⟩) 2 c18) E A [y0 - 3, y1 + 2]) := ⟨Tv5, hown, fun g h => by simp [Value.ownBlock] at h; subst h; simp [Value.ownBlock]; omega⟩
                clear hown hgrow hat hlt Tv5 R4v4 R17v4 Tv4
                refine wpAnyH_take (i := 19) (oi := { dst := some 9, op := Go.Op.assign (Go.Operand.tmp 49), type := 24, pos := "l11_fields.go:217", after := #[{ on := 18, ground := Go.Ground.data }, { on := 18, ground := Go.Ground.chain }, { on := 0, ground := Go.Ground.phase }, { on := 1, ground := Go.Ground.phase }, { on := 2, ground := Go.Ground.phase }, { on := 3, ground := Go.Ground.phase }, { on := 4, ground := Go.Ground.phase }, { on := 5, ground := Go.Ground.phase }, { on := 6, ground := Go.Ground.phase }, { on := 7, ground := Go.Ground.phase }, { on := 8, ground := Go.Ground.phase }, { on := 9, ground := Go.Ground.phase }, { on := 10, ground := Go.Ground.phase }, { on := 11, ground := Go.Ground.phase }, { on := 12, ground := Go.Ground.phase }, { on := 13, ground := Go.Ground.phase }, { on := 14, ground := Go.Ground.phase }, { on := 15, ground := Go.Ground.phase }, { on := 16, ground := Go.Ground.phase }, { on := 17, ground := Go.Ground.phase }, { on := 18, ground := Go.Ground.phase }], guard := none }) (v := ?_) rfl (by kernel_rfl) (by kernel_rfl) (by kernel_rfl) (fun _ _ _ h => h) (Or.inl ⟨by rfl, ?_⟩) (by assumption) ?_
                rotate_left 1
                · (intro w hSw; (try dsimp only at hSw); go_simp); all_goals (with_reducible rfl)
                try simp only [Act.put, List.setIfInBounds_toArray, List.set_cons_zero, List.set_cons_succ]
                refine wpAnyH_done (by kernel_rfl) ?_ _
                go_wp2_with fail
                go_meet
                exact ⟨b18, 2, c18, [y0 - 3, y1 + 2], rfl, rfl, by omega, DF⟩
              · go_simp
                refine hK.out _ _ (by (try dsimp only); go_keep) (fun hHeld2 => ?_)
                clear hK K hHeld
                have hHeld := hHeld2
                clear hHeld2
                try simp only [Act.put, List.setIfInBounds_toArray, List.set_cons_zero, List.set_cons_succ]
                have Tv6 : Hid (TR r w (v2.alloc (.cells #[.int .i64 (y1 + 2)] 2)) (.slice (some ⟨ge, 0, none⟩) ne ce) (.slice (some ⟨ga, 0, none⟩) k ca) E A) := Tv2.out.alloc (.cells #[.int .i64 (y1 + 2)] 2)
                have R4v6 : Hid ((v2.alloc (.cells #[.int .i64 (y1 + 2)] 2)).ownsRow (r + 1) 2 1 (.slice (some ⟨b4, 0, none⟩) 1 1) 1 [.int .i64 (y0 - 3)]) := row_alloc R4v2.out (.cells #[.int .i64 (y1 + 2)] 2)
                have R5v6 : Hid ((v2.alloc (.cells #[.int .i64 (y1 + 2)] 2)).ownsRow (r + 1) 2 1 (.slice (some ⟨b5, 0, none⟩) 0 0) 0 []) := row_alloc R5v2.out (.cells #[.int .i64 (y1 + 2)] 2)
                have R16v6 : Hid ((v2.alloc (.cells #[.int .i64 (y1 + 2)] 2)).ownsRow (r + 1) 2 1 (.slice (some ⟨v2.heap.size, 0, none⟩) 1 1) 1 [.int .i64 (y1 + 2)]) := World.ownsRow_lit v2 #[.int .i64 (y1 + 2)] 1 (by have := Tv2.out.rd.lt; omega) (by unfold maxLen; omega) rfl
                have lt16 : ge < v2.heap.size ∧ ga < v2.heap.size ∧ r < v2.heap.size := ⟨(Tv2.out.e.lt ge rfl).2, (Tv2.out.a.lt ga rfl).2, Tv2.out.rd.lt⟩
                have lt16_4 : b4 < v2.heap.size := (R4v2.out.lt b4 rfl).2
                have lt16_5 : b5 < v2.heap.size := (R5v2.out.lt b5 rfl).2
                clear Tv2 R4v2 R5v2
                generalize v2.alloc (.cells #[.int .i64 (y1 + 2)] 2) = v6 at hHeld Tv6 R4v6 R5v6 R16v6 ⊢
                generalize v2.heap.size = b16 at R16v6 lt16 lt16_4 lt16_5 ⊢
                refine wpAnyH_ready (rs := [8]) (by kernel_rfl) (by simp) ?_
                refine AllReadyH.cons (o := { dst := some 39, op := Go.Op.call { callee := Go.Callee.builtin Go.Builtin.append, args := #[Go.Operand.tmp 36, Go.Operand.tmp 38], argTypes := #[24, 24] }, type := 24, pos := "l11_fields.go:217", after := #[{ on := 5, ground := Go.Ground.data }, { on := 7, ground := Go.Ground.data }], guard := none }) rfl (fun K hK => ?_) AllReadyH.nil
                go_simp
                refine hK.out _ _ (by (try dsimp only); exact hHeld) (fun hHeld2 => ?_)
                clear hK K hHeld
                have hHeld := hHeld2
                clear hHeld2
                try simp only [Act.put, List.setIfInBounds_toArray, List.set_cons_zero, List.set_cons_succ]
                refine wpAnyH_ready (rs := [17]) (by kernel_rfl) (by simp) ?_
                refine AllReadyH.cons (o := { dst := some 48, op := Go.Op.call { callee := Go.Callee.builtin Go.Builtin.append, args := #[Go.Operand.tmp 39, Go.Operand.tmp 47], argTypes := #[24, 24] }, type := 24, pos := "l11_fields.go:217", after := #[{ on := 8, ground := Go.Ground.data }, { on := 16, ground := Go.Ground.data }, { on := 8, ground := Go.Ground.chain }], guard := none }) rfl (fun K hK => ?_) AllReadyH.nil
                have lq : ge < v6.heap.size ∧ ga < v6.heap.size ∧ r < v6.heap.size := ⟨(Tv6.out.e.lt ge rfl).2, (Tv6.out.a.lt ga rfl).2, Tv6.out.rd.lt⟩
                have lq4 : b4 < v6.heap.size := (R4v6.out.lt b4 rfl).2
                refine step_append_lies _ (by rfl) _ _ 24 (by rfl) (r + 1) 2 i0 (.int .i64 0) 1 8 Try.underlying24 hi hz0 hz1 hz2 rfl (by decide) _ _ _ (by rfl) R5v6.out ⟨b16, 0, none⟩ 1 1 [.int .i64 (y1 + 2)] (by rfl) rfl (row_news R16v6.out) (by intro u hu; simp at hu; subst hu; rfl) (by decide) (by unfold maxLen; omega) (by omega) (by have := Tv6.out.rd.lt; omega) v6.heap.size rfl ?_
                intro b17 c17 v7 hown hgrow hat hlt
                replace hgrow : v6.grownBy v7 (some b5) := hgrow
                replace hat : b5 = b17 ∨ b17 = v6.heap.size := (by rcases hat with h | h; exact .inl (by simpa [Value.ownBlock] using h); exact .inr h)
                refine hK.out _ _ (by (try dsimp only); exact ⟨(grown_cell hgrow lq.1 (by simp; omega)).trans hHeld.1, (grown_cell hgrow lq.1 (by simp; omega)).trans hHeld.2⟩) (fun hHeld2 => ?_)
                clear hK K hHeld
                have hHeld := hHeld2
                clear hHeld2
                try simp only [Act.put, List.setIfInBounds_toArray, List.set_cons_zero, List.set_cons_succ]
                have Tv7 : Hid (TR r w v7 (.slice (some ⟨ge, 0, none⟩) ne ce) (.slice (some ⟨ga, 0, none⟩) k ca) E A) := Tv6.out.grown hgrow (by have := R5v6.out.lt b5 rfl; omega) (by simp [Value.ownBlock]; omega) (by simp [Value.ownBlock]; omega)
                have R17v7 : Hid (v7.ownsRow (r + 1) 2 1 (.slice (some ⟨b17, 0, none⟩) 1 c17) 1 [.int .i64 (y1 + 2)]) := hown
                have R4v7 : Hid (v7.ownsRow (r + 1) 2 1 (.slice (some ⟨b4, 0, none⟩) 1 1) 1 [.int .i64 (y0 - 3)]) := row_grown R4v6.out hgrow (fun g h x => by simp [Value.ownBlock] at h x; omega)
                have lt17 : ge ≠ b17 ∧ ga ≠ b17 ∧ b4 ≠ b17 := by omega
                clear hown hgrow hat hlt Tv6 R4v6 R5v6 R16v6
                refine wpAnyH_ready (rs := [18]) (by kernel_rfl) (by simp) ?_
                refine AllReadyH.cons (o := { dst := some 49, op := Go.Op.call { callee := Go.Callee.builtin Go.Builtin.append, args := #[Go.Operand.tmp 35, Go.Operand.tmp 48], argTypes := #[24, 24] }, type := 24, pos := "l11_fields.go:217", after := #[{ on := 4, ground := Go.Ground.data }, { on := 17, ground := Go.Ground.data }, { on := 17, ground := Go.Ground.chain }], guard := none }) rfl (fun K hK => ?_) AllReadyH.nil
                have lq : ge < v7.heap.size ∧ ga < v7.heap.size ∧ r < v7.heap.size := ⟨(Tv7.out.e.lt ge rfl).2, (Tv7.out.a.lt ga rfl).2, Tv7.out.rd.lt⟩
                refine step_append_lies _ (by rfl) _ _ 24 (by rfl) (r + 1) 2 i0 (.int .i64 0) 1 8 Try.underlying24 hi hz0 hz1 hz2 rfl (by decide) _ _ _ (by rfl) R4v7.out ⟨b17, 0, none⟩ 1 c17 [.int .i64 (y1 + 2)] (by rfl) rfl (row_news R17v7.out) (by intro u hu; simp at hu; subst hu; rfl) (by decide) (by unfold maxLen; omega) (by omega) (by have := Tv7.out.rd.lt; omega) v7.heap.size rfl ?_
                intro b18 c18 v8 hown hgrow hat hlt
                replace hgrow : v7.grownBy v8 (some b4) := hgrow
                replace hat : b4 = b18 ∨ b18 = v7.heap.size := (by rcases hat with h | h; exact .inl (by simpa [Value.ownBlock] using h); exact .inr h)
                refine hK.out _ _ (by (try dsimp only); exact ⟨(grown_cell hgrow lq.1 (by simp; omega)).trans hHeld.1, (grown_cell hgrow lq.1 (by simp; omega)).trans hHeld.2⟩) (fun hHeld2 => ?_)
                clear hK K hHeld
                have hHeld := hHeld2
                clear hHeld2
                try simp only [Act.put, List.setIfInBounds_toArray, List.set_cons_zero, List.set_cons_succ]
                have Tv8 : TR r w v8 (.slice (some ⟨ge, 0, none⟩) ne ce) (.slice (some ⟨ga, 0, none⟩) k ca) E A := Tv7.out.grown hgrow (by have := R4v7.out.lt b4 rfl; omega) (by simp [Value.ownBlock]; omega) (by simp [Value.ownBlock]; omega)
                have DF : Hid (DR r w v8 (.slice (some ⟨ge, 0, none⟩) ne ce) (.slice (some ⟨ga, 0, none⟩) k ca) (.slice (some ⟨b18, 0, none⟩) 2 c18) E A [y0 - 3, y1 + 2]) := ⟨Tv8, hown, fun g h => by simp [Value.ownBlock] at h; subst h; simp [Value.ownBlock]; omega⟩
                clear hown hgrow hat hlt Tv8 R4v7 R17v7 Tv7
                refine wpAnyH_take (i := 19) (oi := { dst := some 9, op := Go.Op.assign (Go.Operand.tmp 49), type := 24, pos := "l11_fields.go:217", after := #[{ on := 18, ground := Go.Ground.data }, { on := 18, ground := Go.Ground.chain }, { on := 0, ground := Go.Ground.phase }, { on := 1, ground := Go.Ground.phase }, { on := 2, ground := Go.Ground.phase }, { on := 3, ground := Go.Ground.phase }, { on := 4, ground := Go.Ground.phase }, { on := 5, ground := Go.Ground.phase }, { on := 6, ground := Go.Ground.phase }, { on := 7, ground := Go.Ground.phase }, { on := 8, ground := Go.Ground.phase }, { on := 9, ground := Go.Ground.phase }, { on := 10, ground := Go.Ground.phase }, { on := 11, ground := Go.Ground.phase }, { on := 12, ground := Go.Ground.phase }, { on := 13, ground := Go.Ground.phase }, { on := 14, ground := Go.Ground.phase }, { on := 15, ground := Go.Ground.phase }, { on := 16, ground := Go.Ground.phase }, { on := 17, ground := Go.Ground.phase }, { on := 18, ground := Go.Ground.phase }], guard := none }) (v := ?_) rfl (by kernel_rfl) (by kernel_rfl) (by kernel_rfl) (fun _ _ _ h => h) (Or.inl ⟨by rfl, ?_⟩) (by assumption) ?_
                rotate_left 1
                · (intro w hSw; (try dsimp only at hSw); go_simp); all_goals (with_reducible rfl)
                try simp only [Act.put, List.setIfInBounds_toArray, List.set_cons_zero, List.set_cons_succ]
                refine wpAnyH_done (by kernel_rfl) ?_ _
                go_wp2_with fail
                go_meet
                exact ⟨b18, 2, c18, [y0 - 3, y1 + 2], rfl, rfl, by omega, DF⟩
            · go_simp
              refine hK.out _ _ (by (try dsimp only); go_keep) (fun hHeld2 => ?_)
              clear hK K hHeld
              have hHeld := hHeld2
              clear hHeld2
              try simp only [Act.put, List.setIfInBounds_toArray, List.set_cons_zero, List.set_cons_succ]
              have Tv9 : Hid (TR r w (v1.alloc (.cells #[.int .i64 (y1 + 2)] 2)) (.slice (some ⟨ge, 0, none⟩) ne ce) (.slice (some ⟨ga, 0, none⟩) k ca) E A) := Tv1.out.alloc (.cells #[.int .i64 (y1 + 2)] 2)
              have R4v9 : Hid ((v1.alloc (.cells #[.int .i64 (y1 + 2)] 2)).ownsRow (r + 1) 2 1 (.slice (some ⟨b4, 0, none⟩) 1 1) 1 [.int .i64 (y0 - 3)]) := row_alloc R4v1.out (.cells #[.int .i64 (y1 + 2)] 2)
              have R16v9 : Hid ((v1.alloc (.cells #[.int .i64 (y1 + 2)] 2)).ownsRow (r + 1) 2 1 (.slice (some ⟨v1.heap.size, 0, none⟩) 1 1) 1 [.int .i64 (y1 + 2)]) := World.ownsRow_lit v1 #[.int .i64 (y1 + 2)] 1 (by have := Tv1.out.rd.lt; omega) (by unfold maxLen; omega) rfl
              have lt16 : ge < v1.heap.size ∧ ga < v1.heap.size ∧ r < v1.heap.size := ⟨(Tv1.out.e.lt ge rfl).2, (Tv1.out.a.lt ga rfl).2, Tv1.out.rd.lt⟩
              have lt16_4 : b4 < v1.heap.size := (R4v1.out.lt b4 rfl).2
              clear Tv1 R4v1
              generalize v1.alloc (.cells #[.int .i64 (y1 + 2)] 2) = v9 at hHeld Tv9 R4v9 R16v9 ⊢
              generalize v1.heap.size = b16 at R16v9 lt16 lt16_4 ⊢
              refine wpAnyH_ready (rs := [5]) (by kernel_rfl) (by simp) ?_
              refine AllReadyH.cons (o := { dst := some 36, op := Go.Op.buildSlice 24 0 #[], type := 24, pos := "l11_fields.go:217", after := #[], guard := none }) rfl (fun K hK => ?_) AllReadyH.nil
              go_simp
              refine hK.out _ _ (by (try dsimp only); go_keep) (fun hHeld2 => ?_)
              clear hK K hHeld
              have hHeld := hHeld2
              clear hHeld2
              try simp only [Act.put, List.setIfInBounds_toArray, List.set_cons_zero, List.set_cons_succ]
              have Tv10 : Hid (TR r w (v9.alloc (.cells #[] 2)) (.slice (some ⟨ge, 0, none⟩) ne ce) (.slice (some ⟨ga, 0, none⟩) k ca) E A) := Tv9.out.alloc (.cells #[] 2)
              have R4v10 : Hid ((v9.alloc (.cells #[] 2)).ownsRow (r + 1) 2 1 (.slice (some ⟨b4, 0, none⟩) 1 1) 1 [.int .i64 (y0 - 3)]) := row_alloc R4v9.out (.cells #[] 2)
              have R16v10 : Hid ((v9.alloc (.cells #[] 2)).ownsRow (r + 1) 2 1 (.slice (some ⟨b16, 0, none⟩) 1 1) 1 [.int .i64 (y1 + 2)]) := row_alloc R16v9.out (.cells #[] 2)
              have R5v10 : Hid ((v9.alloc (.cells #[] 2)).ownsRow (r + 1) 2 1 (.slice (some ⟨v9.heap.size, 0, none⟩) 0 0) 0 []) := World.ownsRow_lit v9 #[] 0 (by have := Tv9.out.rd.lt; omega) (by unfold maxLen; omega) rfl
              have lt5 : ge < v9.heap.size ∧ ga < v9.heap.size ∧ r < v9.heap.size := ⟨(Tv9.out.e.lt ge rfl).2, (Tv9.out.a.lt ga rfl).2, Tv9.out.rd.lt⟩
              have lt5_4 : b4 < v9.heap.size := (R4v9.out.lt b4 rfl).2
              have lt5_16 : b16 < v9.heap.size := (R16v9.out.lt b16 rfl).2
              clear Tv9 R4v9 R16v9
              generalize v9.alloc (.cells #[] 2) = v10 at hHeld Tv10 R4v10 R16v10 R5v10 ⊢
              generalize v9.heap.size = b5 at R5v10 lt5 lt5_4 lt5_16 ⊢
              refine wpAnyH_ready (rs := [8]) (by kernel_rfl) (by simp) ?_
              refine AllReadyH.cons (o := { dst := some 39, op := Go.Op.call { callee := Go.Callee.builtin Go.Builtin.append, args := #[Go.Operand.tmp 36, Go.Operand.tmp 38], argTypes := #[24, 24] }, type := 24, pos := "l11_fields.go:217", after := #[{ on := 5, ground := Go.Ground.data }, { on := 7, ground := Go.Ground.data }], guard := none }) rfl (fun K hK => ?_) AllReadyH.nil
              go_simp
              refine hK.out _ _ (by (try dsimp only); exact hHeld) (fun hHeld2 => ?_)
              clear hK K hHeld
              have hHeld := hHeld2
              clear hHeld2
              try simp only [Act.put, List.setIfInBounds_toArray, List.set_cons_zero, List.set_cons_succ]
              refine wpAnyH_ready (rs := [17]) (by kernel_rfl) (by simp) ?_
              refine AllReadyH.cons (o := { dst := some 48, op := Go.Op.call { callee := Go.Callee.builtin Go.Builtin.append, args := #[Go.Operand.tmp 39, Go.Operand.tmp 47], argTypes := #[24, 24] }, type := 24, pos := "l11_fields.go:217", after := #[{ on := 8, ground := Go.Ground.data }, { on := 16, ground := Go.Ground.data }, { on := 8, ground := Go.Ground.chain }], guard := none }) rfl (fun K hK => ?_) AllReadyH.nil
              have lq : ge < v10.heap.size ∧ ga < v10.heap.size ∧ r < v10.heap.size := ⟨(Tv10.out.e.lt ge rfl).2, (Tv10.out.a.lt ga rfl).2, Tv10.out.rd.lt⟩
              have lq4 : b4 < v10.heap.size := (R4v10.out.lt b4 rfl).2
              refine step_append_lies _ (by rfl) _ _ 24 (by rfl) (r + 1) 2 i0 (.int .i64 0) 1 8 Try.underlying24 hi hz0 hz1 hz2 rfl (by decide) _ _ _ (by rfl) R5v10.out ⟨b16, 0, none⟩ 1 1 [.int .i64 (y1 + 2)] (by rfl) rfl (row_news R16v10.out) (by intro u hu; simp at hu; subst hu; rfl) (by decide) (by unfold maxLen; omega) (by omega) (by have := Tv10.out.rd.lt; omega) v10.heap.size rfl ?_
              intro b17 c17 v11 hown hgrow hat hlt
              replace hgrow : v10.grownBy v11 (some b5) := hgrow
              replace hat : b5 = b17 ∨ b17 = v10.heap.size := (by rcases hat with h | h; exact .inl (by simpa [Value.ownBlock] using h); exact .inr h)
              refine hK.out _ _ (by (try dsimp only); exact ⟨(grown_cell hgrow lq.1 (by simp; omega)).trans hHeld.1, (grown_cell hgrow lq.1 (by simp; omega)).trans hHeld.2⟩) (fun hHeld2 => ?_)
              clear hK K hHeld
              have hHeld := hHeld2
              clear hHeld2
              try simp only [Act.put, List.setIfInBounds_toArray, List.set_cons_zero, List.set_cons_succ]
              have Tv11 : Hid (TR r w v11 (.slice (some ⟨ge, 0, none⟩) ne ce) (.slice (some ⟨ga, 0, none⟩) k ca) E A) := Tv10.out.grown hgrow (by have := R5v10.out.lt b5 rfl; omega) (by simp [Value.ownBlock]; omega) (by simp [Value.ownBlock]; omega)
              have R17v11 : Hid (v11.ownsRow (r + 1) 2 1 (.slice (some ⟨b17, 0, none⟩) 1 c17) 1 [.int .i64 (y1 + 2)]) := hown
              have R4v11 : Hid (v11.ownsRow (r + 1) 2 1 (.slice (some ⟨b4, 0, none⟩) 1 1) 1 [.int .i64 (y0 - 3)]) := row_grown R4v10.out hgrow (fun g h x => by simp [Value.ownBlock] at h x; omega)
              have lt17 : ge ≠ b17 ∧ ga ≠ b17 ∧ b4 ≠ b17 := by omega
              clear hown hgrow hat hlt Tv10 R4v10 R16v10 R5v10
              refine wpAnyH_ready (rs := [18]) (by kernel_rfl) (by simp) ?_
              refine AllReadyH.cons (o := { dst := some 49, op := Go.Op.call { callee := Go.Callee.builtin Go.Builtin.append, args := #[Go.Operand.tmp 35, Go.Operand.tmp 48], argTypes := #[24, 24] }, type := 24, pos := "l11_fields.go:217", after := #[{ on := 4, ground := Go.Ground.data }, { on := 17, ground := Go.Ground.data }, { on := 17, ground := Go.Ground.chain }], guard := none }) rfl (fun K hK => ?_) AllReadyH.nil
              have lq : ge < v11.heap.size ∧ ga < v11.heap.size ∧ r < v11.heap.size := ⟨(Tv11.out.e.lt ge rfl).2, (Tv11.out.a.lt ga rfl).2, Tv11.out.rd.lt⟩
              refine step_append_lies _ (by rfl) _ _ 24 (by rfl) (r + 1) 2 i0 (.int .i64 0) 1 8 Try.underlying24 hi hz0 hz1 hz2 rfl (by decide) _ _ _ (by rfl) R4v11.out ⟨b17, 0, none⟩ 1 c17 [.int .i64 (y1 + 2)] (by rfl) rfl (row_news R17v11.out) (by intro u hu; simp at hu; subst hu; rfl) (by decide) (by unfold maxLen; omega) (by omega) (by have := Tv11.out.rd.lt; omega) v11.heap.size rfl ?_
              intro b18 c18 v12 hown hgrow hat hlt
              replace hgrow : v11.grownBy v12 (some b4) := hgrow
              replace hat : b4 = b18 ∨ b18 = v11.heap.size := (by rcases hat with h | h; exact .inl (by simpa [Value.ownBlock] using h); exact .inr h)
              refine hK.out _ _ (by (try dsimp only); exact ⟨(grown_cell hgrow lq.1 (by simp; omega)).trans hHeld.1, (grown_cell hgrow lq.1 (by simp; omega)).trans hHeld.2⟩) (fun hHeld2 => ?_)
              clear hK K hHeld
              have hHeld := hHeld2
              clear hHeld2
              try simp only [Act.put, List.setIfInBounds_toArray, List.set_cons_zero, List.set_cons_succ]
              have Tv12 : TR r w v12 (.slice (some ⟨ge, 0, none⟩) ne ce) (.slice (some ⟨ga, 0, none⟩) k ca) E A := Tv11.out.grown hgrow (by have := R4v11.out.lt b4 rfl; omega) (by simp [Value.ownBlock]; omega) (by simp [Value.ownBlock]; omega)
              have DF : Hid (DR r w v12 (.slice (some ⟨ge, 0, none⟩) ne ce) (.slice (some ⟨ga, 0, none⟩) k ca) (.slice (some ⟨b18, 0, none⟩) 2 c18) E A [y0 - 3, y1 + 2]) := ⟨Tv12, hown, fun g h => by simp [Value.ownBlock] at h; subst h; simp [Value.ownBlock]; omega⟩
              clear hown hgrow hat hlt Tv12 R4v11 R17v11 Tv11
              refine wpAnyH_take (i := 19) (oi := { dst := some 9, op := Go.Op.assign (Go.Operand.tmp 49), type := 24, pos := "l11_fields.go:217", after := #[{ on := 18, ground := Go.Ground.data }, { on := 18, ground := Go.Ground.chain }, { on := 0, ground := Go.Ground.phase }, { on := 1, ground := Go.Ground.phase }, { on := 2, ground := Go.Ground.phase }, { on := 3, ground := Go.Ground.phase }, { on := 4, ground := Go.Ground.phase }, { on := 5, ground := Go.Ground.phase }, { on := 6, ground := Go.Ground.phase }, { on := 7, ground := Go.Ground.phase }, { on := 8, ground := Go.Ground.phase }, { on := 9, ground := Go.Ground.phase }, { on := 10, ground := Go.Ground.phase }, { on := 11, ground := Go.Ground.phase }, { on := 12, ground := Go.Ground.phase }, { on := 13, ground := Go.Ground.phase }, { on := 14, ground := Go.Ground.phase }, { on := 15, ground := Go.Ground.phase }, { on := 16, ground := Go.Ground.phase }, { on := 17, ground := Go.Ground.phase }, { on := 18, ground := Go.Ground.phase }], guard := none }) (v := ?_) rfl (by kernel_rfl) (by kernel_rfl) (by kernel_rfl) (fun _ _ _ h => h) (Or.inl ⟨by rfl, ?_⟩) (by assumption) ?_
              rotate_left 1
              · (intro w hSw; (try dsimp only at hSw); go_simp); all_goals (with_reducible rfl)
              try simp only [Act.put, List.setIfInBounds_toArray, List.set_cons_zero, List.set_cons_succ]
              refine wpAnyH_done (by kernel_rfl) ?_ _
              go_wp2_with fail
              go_meet
              exact ⟨b18, 2, c18, [y0 - 3, y1 + 2], rfl, rfl, by omega, DF⟩
          · go_simp
            refine hK.out _ _ (by (try dsimp only); go_keep) (fun hHeld2 => ?_)
            clear hK K hHeld
            have hHeld := hHeld2
            clear hHeld2
            try simp only [Act.put, List.setIfInBounds_toArray, List.set_cons_zero, List.set_cons_succ]
            have Tv13 : Hid (TR r w (vz.alloc (.cells #[] 2)) (.slice (some ⟨ge, 0, none⟩) ne ce) (.slice (some ⟨ga, 0, none⟩) k ca) E A) := Tvz.out.alloc (.cells #[] 2)
            have R5v13 : Hid ((vz.alloc (.cells #[] 2)).ownsRow (r + 1) 2 1 (.slice (some ⟨vz.heap.size, 0, none⟩) 0 0) 0 []) := World.ownsRow_lit vz #[] 0 (by have := Tvz.out.rd.lt; omega) (by unfold maxLen; omega) rfl
            have lt5 : ge < vz.heap.size ∧ ga < vz.heap.size ∧ r < vz.heap.size := ⟨(Tvz.out.e.lt ge rfl).2, (Tvz.out.a.lt ga rfl).2, Tvz.out.rd.lt⟩
            clear Tvz 
            generalize vz.alloc (.cells #[] 2) = v13 at hHeld Tv13 R5v13 ⊢
            generalize vz.heap.size = b5 at R5v13 lt5 ⊢
            refine wpAnyH_ready (rs := [4, 8, 16]) (by kernel_rfl) (by simp) ?_
            refine AllReadyH.cons (o := { dst := some 35, op := Go.Op.buildSlice 24 1 #[(0, Go.Operand.tmp 34)], type := 24, pos := "l11_fields.go:217", after := #[{ on := 3, ground := Go.Ground.data }], guard := none }) rfl (fun K hK => ?_) (AllReadyH.cons (o := { dst := some 39, op := Go.Op.call { callee := Go.Callee.builtin Go.Builtin.append, args := #[Go.Operand.tmp 36, Go.Operand.tmp 38], argTypes := #[24, 24] }, type := 24, pos := "l11_fields.go:217", after := #[{ on := 5, ground := Go.Ground.data }, { on := 7, ground := Go.Ground.data }], guard := none }) rfl (fun K hK => ?_) (AllReadyH.cons (o := { dst := some 47, op := Go.Op.buildSlice 24 1 #[(0, Go.Operand.tmp 46)], type := 24, pos := "l11_fields.go:217", after := #[{ on := 15, ground := Go.Ground.data }], guard := none }) rfl (fun K hK => ?_) AllReadyH.nil))
            · go_simp
              refine hK.out _ _ (by (try dsimp only); go_keep) (fun hHeld2 => ?_)
              clear hK K hHeld
              have hHeld := hHeld2
              clear hHeld2
              try simp only [Act.put, List.setIfInBounds_toArray, List.set_cons_zero, List.set_cons_succ]
              have Tv14 : Hid (TR r w (v13.alloc (.cells #[.int .i64 (y0 - 3)] 2)) (.slice (some ⟨ge, 0, none⟩) ne ce) (.slice (some ⟨ga, 0, none⟩) k ca) E A) := Tv13.out.alloc (.cells #[.int .i64 (y0 - 3)] 2)
              have R5v14 : Hid ((v13.alloc (.cells #[.int .i64 (y0 - 3)] 2)).ownsRow (r + 1) 2 1 (.slice (some ⟨b5, 0, none⟩) 0 0) 0 []) := row_alloc R5v13.out (.cells #[.int .i64 (y0 - 3)] 2)
              have R4v14 : Hid ((v13.alloc (.cells #[.int .i64 (y0 - 3)] 2)).ownsRow (r + 1) 2 1 (.slice (some ⟨v13.heap.size, 0, none⟩) 1 1) 1 [.int .i64 (y0 - 3)]) := World.ownsRow_lit v13 #[.int .i64 (y0 - 3)] 1 (by have := Tv13.out.rd.lt; omega) (by unfold maxLen; omega) rfl
              have lt4 : ge < v13.heap.size ∧ ga < v13.heap.size ∧ r < v13.heap.size := ⟨(Tv13.out.e.lt ge rfl).2, (Tv13.out.a.lt ga rfl).2, Tv13.out.rd.lt⟩
              have lt4_5 : b5 < v13.heap.size := (R5v13.out.lt b5 rfl).2
              clear Tv13 R5v13
              generalize v13.alloc (.cells #[.int .i64 (y0 - 3)] 2) = v14 at hHeld Tv14 R5v14 R4v14 ⊢
              generalize v13.heap.size = b4 at R4v14 lt4 lt4_5 ⊢
              refine wpAnyH_ready (rs := [8, 16]) (by kernel_rfl) (by simp) ?_
              refine AllReadyH.cons (o := { dst := some 39, op := Go.Op.call { callee := Go.Callee.builtin Go.Builtin.append, args := #[Go.Operand.tmp 36, Go.Operand.tmp 38], argTypes := #[24, 24] }, type := 24, pos := "l11_fields.go:217", after := #[{ on := 5, ground := Go.Ground.data }, { on := 7, ground := Go.Ground.data }], guard := none }) rfl (fun K hK => ?_) (AllReadyH.cons (o := { dst := some 47, op := Go.Op.buildSlice 24 1 #[(0, Go.Operand.tmp 46)], type := 24, pos := "l11_fields.go:217", after := #[{ on := 15, ground := Go.Ground.data }], guard := none }) rfl (fun K hK => ?_) AllReadyH.nil)
              · go_simp
                refine hK.out _ _ (by (try dsimp only); exact hHeld) (fun hHeld2 => ?_)
                clear hK K hHeld
                have hHeld := hHeld2
                clear hHeld2
                try simp only [Act.put, List.setIfInBounds_toArray, List.set_cons_zero, List.set_cons_succ]
                refine wpAnyH_ready (rs := [16]) (by kernel_rfl) (by simp) ?_
                refine AllReadyH.cons (o := { dst := some 47, op := Go.Op.buildSlice 24 1 #[(0, Go.Operand.tmp 46)], type := 24, pos := "l11_fields.go:217", after := #[{ on := 15, ground := Go.Ground.data }], guard := none }) rfl (fun K hK => ?_) AllReadyH.nil
                go_simp
                refine hK.out _ _ (by (try dsimp only); go_keep) (fun hHeld2 => ?_)
                clear hK K hHeld
                have hHeld := hHeld2
                clear hHeld2
                try simp only [Act.put, List.setIfInBounds_toArray, List.set_cons_zero, List.set_cons_succ]
                have Tv15 : Hid (TR r w (v14.alloc (.cells #[.int .i64 (y1 + 2)] 2)) (.slice (some ⟨ge, 0, none⟩) ne ce) (.slice (some ⟨ga, 0, none⟩) k ca) E A) := Tv14.out.alloc (.cells #[.int .i64 (y1 + 2)] 2)
                have R5v15 : Hid ((v14.alloc (.cells #[.int .i64 (y1 + 2)] 2)).ownsRow (r + 1) 2 1 (.slice (some ⟨b5, 0, none⟩) 0 0) 0 []) := row_alloc R5v14.out (.cells #[.int .i64 (y1 + 2)] 2)
                have R4v15 : Hid ((v14.alloc (.cells #[.int .i64 (y1 + 2)] 2)).ownsRow (r + 1) 2 1 (.slice (some ⟨b4, 0, none⟩) 1 1) 1 [.int .i64 (y0 - 3)]) := row_alloc R4v14.out (.cells #[.int .i64 (y1 + 2)] 2)
                have R16v15 : Hid ((v14.alloc (.cells #[.int .i64 (y1 + 2)] 2)).ownsRow (r + 1) 2 1 (.slice (some ⟨v14.heap.size, 0, none⟩) 1 1) 1 [.int .i64 (y1 + 2)]) := World.ownsRow_lit v14 #[.int .i64 (y1 + 2)] 1 (by have := Tv14.out.rd.lt; omega) (by unfold maxLen; omega) rfl
                have lt16 : ge < v14.heap.size ∧ ga < v14.heap.size ∧ r < v14.heap.size := ⟨(Tv14.out.e.lt ge rfl).2, (Tv14.out.a.lt ga rfl).2, Tv14.out.rd.lt⟩
                have lt16_5 : b5 < v14.heap.size := (R5v14.out.lt b5 rfl).2
                have lt16_4 : b4 < v14.heap.size := (R4v14.out.lt b4 rfl).2
                clear Tv14 R5v14 R4v14
                generalize v14.alloc (.cells #[.int .i64 (y1 + 2)] 2) = v15 at hHeld Tv15 R5v15 R4v15 R16v15 ⊢
                generalize v14.heap.size = b16 at R16v15 lt16 lt16_5 lt16_4 ⊢
                refine wpAnyH_ready (rs := [17]) (by kernel_rfl) (by simp) ?_
                refine AllReadyH.cons (o := { dst := some 48, op := Go.Op.call { callee := Go.Callee.builtin Go.Builtin.append, args := #[Go.Operand.tmp 39, Go.Operand.tmp 47], argTypes := #[24, 24] }, type := 24, pos := "l11_fields.go:217", after := #[{ on := 8, ground := Go.Ground.data }, { on := 16, ground := Go.Ground.data }, { on := 8, ground := Go.Ground.chain }], guard := none }) rfl (fun K hK => ?_) AllReadyH.nil
                have lq : ge < v15.heap.size ∧ ga < v15.heap.size ∧ r < v15.heap.size := ⟨(Tv15.out.e.lt ge rfl).2, (Tv15.out.a.lt ga rfl).2, Tv15.out.rd.lt⟩
                have lq4 : b4 < v15.heap.size := (R4v15.out.lt b4 rfl).2
                refine step_append_lies _ (by rfl) _ _ 24 (by rfl) (r + 1) 2 i0 (.int .i64 0) 1 8 Try.underlying24 hi hz0 hz1 hz2 rfl (by decide) _ _ _ (by rfl) R5v15.out ⟨b16, 0, none⟩ 1 1 [.int .i64 (y1 + 2)] (by rfl) rfl (row_news R16v15.out) (by intro u hu; simp at hu; subst hu; rfl) (by decide) (by unfold maxLen; omega) (by omega) (by have := Tv15.out.rd.lt; omega) v15.heap.size rfl ?_
                intro b17 c17 v16 hown hgrow hat hlt
                replace hgrow : v15.grownBy v16 (some b5) := hgrow
                replace hat : b5 = b17 ∨ b17 = v15.heap.size := (by rcases hat with h | h; exact .inl (by simpa [Value.ownBlock] using h); exact .inr h)
                refine hK.out _ _ (by (try dsimp only); exact ⟨(grown_cell hgrow lq.1 (by simp; omega)).trans hHeld.1, (grown_cell hgrow lq.1 (by simp; omega)).trans hHeld.2⟩) (fun hHeld2 => ?_)
                clear hK K hHeld
                have hHeld := hHeld2
                clear hHeld2
                try simp only [Act.put, List.setIfInBounds_toArray, List.set_cons_zero, List.set_cons_succ]
                have Tv16 : Hid (TR r w v16 (.slice (some ⟨ge, 0, none⟩) ne ce) (.slice (some ⟨ga, 0, none⟩) k ca) E A) := Tv15.out.grown hgrow (by have := R5v15.out.lt b5 rfl; omega) (by simp [Value.ownBlock]; omega) (by simp [Value.ownBlock]; omega)
                have R17v16 : Hid (v16.ownsRow (r + 1) 2 1 (.slice (some ⟨b17, 0, none⟩) 1 c17) 1 [.int .i64 (y1 + 2)]) := hown
                have R4v16 : Hid (v16.ownsRow (r + 1) 2 1 (.slice (some ⟨b4, 0, none⟩) 1 1) 1 [.int .i64 (y0 - 3)]) := row_grown R4v15.out hgrow (fun g h x => by simp [Value.ownBlock] at h x; omega)
                have lt17 : ge ≠ b17 ∧ ga ≠ b17 ∧ b4 ≠ b17 := by omega
                clear hown hgrow hat hlt Tv15 R5v15 R4v15 R16v15
                refine wpAnyH_ready (rs := [18]) (by kernel_rfl) (by simp) ?_
                refine AllReadyH.cons (o := { dst := some 49, op := Go.Op.call { callee := Go.Callee.builtin Go.Builtin.append, args := #[Go.Operand.tmp 35, Go.Operand.tmp 48], argTypes := #[24, 24] }, type := 24, pos := "l11_fields.go:217", after := #[{ on := 4, ground := Go.Ground.data }, { on := 17, ground := Go.Ground.data }, { on := 17, ground := Go.Ground.chain }], guard := none }) rfl (fun K hK => ?_) AllReadyH.nil
                have lq : ge < v16.heap.size ∧ ga < v16.heap.size ∧ r < v16.heap.size := ⟨(Tv16.out.e.lt ge rfl).2, (Tv16.out.a.lt ga rfl).2, Tv16.out.rd.lt⟩
                refine step_append_lies _ (by rfl) _ _ 24 (by rfl) (r + 1) 2 i0 (.int .i64 0) 1 8 Try.underlying24 hi hz0 hz1 hz2 rfl (by decide) _ _ _ (by rfl) R4v16.out ⟨b17, 0, none⟩ 1 c17 [.int .i64 (y1 + 2)] (by rfl) rfl (row_news R17v16.out) (by intro u hu; simp at hu; subst hu; rfl) (by decide) (by unfold maxLen; omega) (by omega) (by have := Tv16.out.rd.lt; omega) v16.heap.size rfl ?_
                intro b18 c18 v17 hown hgrow hat hlt
                replace hgrow : v16.grownBy v17 (some b4) := hgrow
                replace hat : b4 = b18 ∨ b18 = v16.heap.size := (by rcases hat with h | h; exact .inl (by simpa [Value.ownBlock] using h); exact .inr h)
                refine hK.out _ _ (by (try dsimp only); exact ⟨(grown_cell hgrow lq.1 (by simp; omega)).trans hHeld.1, (grown_cell hgrow lq.1 (by simp; omega)).trans hHeld.2⟩) (fun hHeld2 => ?_)
                clear hK K hHeld
                have hHeld := hHeld2
                clear hHeld2
                try simp only [Act.put, List.setIfInBounds_toArray, List.set_cons_zero, List.set_cons_succ]
                have Tv17 : TR r w v17 (.slice (some ⟨ge, 0, none⟩) ne ce) (.slice (some ⟨ga, 0, none⟩) k ca) E A := Tv16.out.grown hgrow (by have := R4v16.out.lt b4 rfl; omega) (by simp [Value.ownBlock]; omega) (by simp [Value.ownBlock]; omega)
                have DF : Hid (DR r w v17 (.slice (some ⟨ge, 0, none⟩) ne ce) (.slice (some ⟨ga, 0, none⟩) k ca) (.slice (some ⟨b18, 0, none⟩) 2 c18) E A [y0 - 3, y1 + 2]) := ⟨Tv17, hown, fun g h => by simp [Value.ownBlock] at h; subst h; simp [Value.ownBlock]; omega⟩
                clear hown hgrow hat hlt Tv17 R4v16 R17v16 Tv16
                refine wpAnyH_take (i := 19) (oi := { dst := some 9, op := Go.Op.assign (Go.Operand.tmp 49), type := 24, pos := "l11_fields.go:217", after := #[{ on := 18, ground := Go.Ground.data }, { on := 18, ground := Go.Ground.chain }, { on := 0, ground := Go.Ground.phase }, { on := 1, ground := Go.Ground.phase }, { on := 2, ground := Go.Ground.phase }, { on := 3, ground := Go.Ground.phase }, { on := 4, ground := Go.Ground.phase }, { on := 5, ground := Go.Ground.phase }, { on := 6, ground := Go.Ground.phase }, { on := 7, ground := Go.Ground.phase }, { on := 8, ground := Go.Ground.phase }, { on := 9, ground := Go.Ground.phase }, { on := 10, ground := Go.Ground.phase }, { on := 11, ground := Go.Ground.phase }, { on := 12, ground := Go.Ground.phase }, { on := 13, ground := Go.Ground.phase }, { on := 14, ground := Go.Ground.phase }, { on := 15, ground := Go.Ground.phase }, { on := 16, ground := Go.Ground.phase }, { on := 17, ground := Go.Ground.phase }, { on := 18, ground := Go.Ground.phase }], guard := none }) (v := ?_) rfl (by kernel_rfl) (by kernel_rfl) (by kernel_rfl) (fun _ _ _ h => h) (Or.inl ⟨by rfl, ?_⟩) (by assumption) ?_
                rotate_left 1
                · (intro w hSw; (try dsimp only at hSw); go_simp); all_goals (with_reducible rfl)
                try simp only [Act.put, List.setIfInBounds_toArray, List.set_cons_zero, List.set_cons_succ]
                refine wpAnyH_done (by kernel_rfl) ?_ _
                go_wp2_with fail
                go_meet
                exact ⟨b18, 2, c18, [y0 - 3, y1 + 2], rfl, rfl, by omega, DF⟩
              · go_simp
                refine hK.out _ _ (by (try dsimp only); go_keep) (fun hHeld2 => ?_)
                clear hK K hHeld
                have hHeld := hHeld2
                clear hHeld2
                try simp only [Act.put, List.setIfInBounds_toArray, List.set_cons_zero, List.set_cons_succ]
                have Tv18 : Hid (TR r w (v14.alloc (.cells #[.int .i64 (y1 + 2)] 2)) (.slice (some ⟨ge, 0, none⟩) ne ce) (.slice (some ⟨ga, 0, none⟩) k ca) E A) := Tv14.out.alloc (.cells #[.int .i64 (y1 + 2)] 2)
                have R5v18 : Hid ((v14.alloc (.cells #[.int .i64 (y1 + 2)] 2)).ownsRow (r + 1) 2 1 (.slice (some ⟨b5, 0, none⟩) 0 0) 0 []) := row_alloc R5v14.out (.cells #[.int .i64 (y1 + 2)] 2)
                have R4v18 : Hid ((v14.alloc (.cells #[.int .i64 (y1 + 2)] 2)).ownsRow (r + 1) 2 1 (.slice (some ⟨b4, 0, none⟩) 1 1) 1 [.int .i64 (y0 - 3)]) := row_alloc R4v14.out (.cells #[.int .i64 (y1 + 2)] 2)
                have R16v18 : Hid ((v14.alloc (.cells #[.int .i64 (y1 + 2)] 2)).ownsRow (r + 1) 2 1 (.slice (some ⟨v14.heap.size, 0, none⟩) 1 1) 1 [.int .i64 (y1 + 2)]) := World.ownsRow_lit v14 #[.int .i64 (y1 + 2)] 1 (by have := Tv14.out.rd.lt; omega) (by unfold maxLen; omega) rfl
                have lt16 : ge < v14.heap.size ∧ ga < v14.heap.size ∧ r < v14.heap.size := ⟨(Tv14.out.e.lt ge rfl).2, (Tv14.out.a.lt ga rfl).2, Tv14.out.rd.lt⟩
                have lt16_5 : b5 < v14.heap.size := (R5v14.out.lt b5 rfl).2
                have lt16_4 : b4 < v14.heap.size := (R4v14.out.lt b4 rfl).2
                clear Tv14 R5v14 R4v14
                generalize v14.alloc (.cells #[.int .i64 (y1 + 2)] 2) = v18 at hHeld Tv18 R5v18 R4v18 R16v18 ⊢
                generalize v14.heap.size = b16 at R16v18 lt16 lt16_5 lt16_4 ⊢
                refine wpAnyH_ready (rs := [8]) (by kernel_rfl) (by simp) ?_
                refine AllReadyH.cons (o := { dst := some 39, op := Go.Op.call { callee := Go.Callee.builtin Go.Builtin.append, args := #[Go.Operand.tmp 36, Go.Operand.tmp 38], argTypes := #[24, 24] }, type := 24, pos := "l11_fields.go:217", after := #[{ on := 5, ground := Go.Ground.data }, { on := 7, ground := Go.Ground.data }], guard := none }) rfl (fun K hK => ?_) AllReadyH.nil
                go_simp
                refine hK.out _ _ (by (try dsimp only); exact hHeld) (fun hHeld2 => ?_)
                clear hK K hHeld
                have hHeld := hHeld2
                clear hHeld2
                try simp only [Act.put, List.setIfInBounds_toArray, List.set_cons_zero, List.set_cons_succ]
                refine wpAnyH_ready (rs := [17]) (by kernel_rfl) (by simp) ?_
                refine AllReadyH.cons (o := { dst := some 48, op := Go.Op.call { callee := Go.Callee.builtin Go.Builtin.append, args := #[Go.Operand.tmp 39, Go.Operand.tmp 47], argTypes := #[24, 24] }, type := 24, pos := "l11_fields.go:217", after := #[{ on := 8, ground := Go.Ground.data }, { on := 16, ground := Go.Ground.data }, { on := 8, ground := Go.Ground.chain }], guard := none }) rfl (fun K hK => ?_) AllReadyH.nil
                have lq : ge < v18.heap.size ∧ ga < v18.heap.size ∧ r < v18.heap.size := ⟨(Tv18.out.e.lt ge rfl).2, (Tv18.out.a.lt ga rfl).2, Tv18.out.rd.lt⟩
                have lq4 : b4 < v18.heap.size := (R4v18.out.lt b4 rfl).2
                refine step_append_lies _ (by rfl) _ _ 24 (by rfl) (r + 1) 2 i0 (.int .i64 0) 1 8 Try.underlying24 hi hz0 hz1 hz2 rfl (by decide) _ _ _ (by rfl) R5v18.out ⟨b16, 0, none⟩ 1 1 [.int .i64 (y1 + 2)] (by rfl) rfl (row_news R16v18.out) (by intro u hu; simp at hu; subst hu; rfl) (by decide) (by unfold maxLen; omega) (by omega) (by have := Tv18.out.rd.lt; omega) v18.heap.size rfl ?_
                intro b17 c17 v19 hown hgrow hat hlt
                replace hgrow : v18.grownBy v19 (some b5) := hgrow
                replace hat : b5 = b17 ∨ b17 = v18.heap.size := (by rcases hat with h | h; exact .inl (by simpa [Value.ownBlock] using h); exact .inr h)
                refine hK.out _ _ (by (try dsimp only); exact ⟨(grown_cell hgrow lq.1 (by simp; omega)).trans hHeld.1, (grown_cell hgrow lq.1 (by simp; omega)).trans hHeld.2⟩) (fun hHeld2 => ?_)
                clear hK K hHeld
                have hHeld := hHeld2
                clear hHeld2
                try simp only [Act.put, List.setIfInBounds_toArray, List.set_cons_zero, List.set_cons_succ]
                have Tv19 : Hid (TR r w v19 (.slice (some ⟨ge, 0, none⟩) ne ce) (.slice (some ⟨ga, 0, none⟩) k ca) E A) := Tv18.out.grown hgrow (by have := R5v18.out.lt b5 rfl; omega) (by simp [Value.ownBlock]; omega) (by simp [Value.ownBlock]; omega)
                have R17v19 : Hid (v19.ownsRow (r + 1) 2 1 (.slice (some ⟨b17, 0, none⟩) 1 c17) 1 [.int .i64 (y1 + 2)]) := hown
                have R4v19 : Hid (v19.ownsRow (r + 1) 2 1 (.slice (some ⟨b4, 0, none⟩) 1 1) 1 [.int .i64 (y0 - 3)]) := row_grown R4v18.out hgrow (fun g h x => by simp [Value.ownBlock] at h x; omega)
                have lt17 : ge ≠ b17 ∧ ga ≠ b17 ∧ b4 ≠ b17 := by omega
                clear hown hgrow hat hlt Tv18 R5v18 R4v18 R16v18
                refine wpAnyH_ready (rs := [18]) (by kernel_rfl) (by simp) ?_
                refine AllReadyH.cons (o := { dst := some 49, op := Go.Op.call { callee := Go.Callee.builtin Go.Builtin.append, args := #[Go.Operand.tmp 35, Go.Operand.tmp 48], argTypes := #[24, 24] }, type := 24, pos := "l11_fields.go:217", after := #[{ on := 4, ground := Go.Ground.data }, { on := 17, ground := Go.Ground.data }, { on := 17, ground := Go.Ground.chain }], guard := none }) rfl (fun K hK => ?_) AllReadyH.nil
                have lq : ge < v19.heap.size ∧ ga < v19.heap.size ∧ r < v19.heap.size := ⟨(Tv19.out.e.lt ge rfl).2, (Tv19.out.a.lt ga rfl).2, Tv19.out.rd.lt⟩
                refine step_append_lies _ (by rfl) _ _ 24 (by rfl) (r + 1) 2 i0 (.int .i64 0) 1 8 Try.underlying24 hi hz0 hz1 hz2 rfl (by decide) _ _ _ (by rfl) R4v19.out ⟨b17, 0, none⟩ 1 c17 [.int .i64 (y1 + 2)] (by rfl) rfl (row_news R17v19.out) (by intro u hu; simp at hu; subst hu; rfl) (by decide) (by unfold maxLen; omega) (by omega) (by have := Tv19.out.rd.lt; omega) v19.heap.size rfl ?_
                intro b18 c18 v20 hown hgrow hat hlt
                replace hgrow : v19.grownBy v20 (some b4) := hgrow
                replace hat : b4 = b18 ∨ b18 = v19.heap.size := (by rcases hat with h | h; exact .inl (by simpa [Value.ownBlock] using h); exact .inr h)
                refine hK.out _ _ (by (try dsimp only); exact ⟨(grown_cell hgrow lq.1 (by simp; omega)).trans hHeld.1, (grown_cell hgrow lq.1 (by simp; omega)).trans hHeld.2⟩) (fun hHeld2 => ?_)
                clear hK K hHeld
                have hHeld := hHeld2
                clear hHeld2
                try simp only [Act.put, List.setIfInBounds_toArray, List.set_cons_zero, List.set_cons_succ]
                have Tv20 : TR r w v20 (.slice (some ⟨ge, 0, none⟩) ne ce) (.slice (some ⟨ga, 0, none⟩) k ca) E A := Tv19.out.grown hgrow (by have := R4v19.out.lt b4 rfl; omega) (by simp [Value.ownBlock]; omega) (by simp [Value.ownBlock]; omega)
                have DF : Hid (DR r w v20 (.slice (some ⟨ge, 0, none⟩) ne ce) (.slice (some ⟨ga, 0, none⟩) k ca) (.slice (some ⟨b18, 0, none⟩) 2 c18) E A [y0 - 3, y1 + 2]) := ⟨Tv20, hown, fun g h => by simp [Value.ownBlock] at h; subst h; simp [Value.ownBlock]; omega⟩
                clear hown hgrow hat hlt Tv20 R4v19 R17v19 Tv19
                refine wpAnyH_take (i := 19) (oi := { dst := some 9, op := Go.Op.assign (Go.Operand.tmp 49), type := 24, pos := "l11_fields.go:217", after := #[{ on := 18, ground := Go.Ground.data }, { on := 18, ground := Go.Ground.chain }, { on := 0, ground := Go.Ground.phase }, { on := 1, ground := Go.Ground.phase }, { on := 2, ground := Go.Ground.phase }, { on := 3, ground := Go.Ground.phase }, { on := 4, ground := Go.Ground.phase }, { on := 5, ground := Go.Ground.phase }, { on := 6, ground := Go.Ground.phase }, { on := 7, ground := Go.Ground.phase }, { on := 8, ground := Go.Ground.phase }, { on := 9, ground := Go.Ground.phase }, { on := 10, ground := Go.Ground.phase }, { on := 11, ground := Go.Ground.phase }, { on := 12, ground := Go.Ground.phase }, { on := 13, ground := Go.Ground.phase }, { on := 14, ground := Go.Ground.phase }, { on := 15, ground := Go.Ground.phase }, { on := 16, ground := Go.Ground.phase }, { on := 17, ground := Go.Ground.phase }, { on := 18, ground := Go.Ground.phase }], guard := none }) (v := ?_) rfl (by kernel_rfl) (by kernel_rfl) (by kernel_rfl) (fun _ _ _ h => h) (Or.inl ⟨by rfl, ?_⟩) (by assumption) ?_
                rotate_left 1
                · (intro w hSw; (try dsimp only at hSw); go_simp); all_goals (with_reducible rfl)
                try simp only [Act.put, List.setIfInBounds_toArray, List.set_cons_zero, List.set_cons_succ]
                refine wpAnyH_done (by kernel_rfl) ?_ _
                go_wp2_with fail
                go_meet
                exact ⟨b18, 2, c18, [y0 - 3, y1 + 2], rfl, rfl, by omega, DF⟩
            · go_simp
              refine hK.out _ _ (by (try dsimp only); exact hHeld) (fun hHeld2 => ?_)
              clear hK K hHeld
              have hHeld := hHeld2
              clear hHeld2
              try simp only [Act.put, List.setIfInBounds_toArray, List.set_cons_zero, List.set_cons_succ]
              refine wpAnyH_ready (rs := [4, 16]) (by kernel_rfl) (by simp) ?_
              refine AllReadyH.cons (o := { dst := some 35, op := Go.Op.buildSlice 24 1 #[(0, Go.Operand.tmp 34)], type := 24, pos := "l11_fields.go:217", after := #[{ on := 3, ground := Go.Ground.data }], guard := none }) rfl (fun K hK => ?_) (AllReadyH.cons (o := { dst := some 47, op := Go.Op.buildSlice 24 1 #[(0, Go.Operand.tmp 46)], type := 24, pos := "l11_fields.go:217", after := #[{ on := 15, ground := Go.Ground.data }], guard := none }) rfl (fun K hK => ?_) AllReadyH.nil)
              · go_simp
                refine hK.out _ _ (by (try dsimp only); go_keep) (fun hHeld2 => ?_)
                clear hK K hHeld
                have hHeld := hHeld2
                clear hHeld2
                try simp only [Act.put, List.setIfInBounds_toArray, List.set_cons_zero, List.set_cons_succ]
                have Tv21 : Hid (TR r w (v13.alloc (.cells #[.int .i64 (y0 - 3)] 2)) (.slice (some ⟨ge, 0, none⟩) ne ce) (.slice (some ⟨ga, 0, none⟩) k ca) E A) := Tv13.out.alloc (.cells #[.int .i64 (y0 - 3)] 2)
                have R5v21 : Hid ((v13.alloc (.cells #[.int .i64 (y0 - 3)] 2)).ownsRow (r + 1) 2 1 (.slice (some ⟨b5, 0, none⟩) 0 0) 0 []) := row_alloc R5v13.out (.cells #[.int .i64 (y0 - 3)] 2)
                have R4v21 : Hid ((v13.alloc (.cells #[.int .i64 (y0 - 3)] 2)).ownsRow (r + 1) 2 1 (.slice (some ⟨v13.heap.size, 0, none⟩) 1 1) 1 [.int .i64 (y0 - 3)]) := World.ownsRow_lit v13 #[.int .i64 (y0 - 3)] 1 (by have := Tv13.out.rd.lt; omega) (by unfold maxLen; omega) rfl
                have lt4 : ge < v13.heap.size ∧ ga < v13.heap.size ∧ r < v13.heap.size := ⟨(Tv13.out.e.lt ge rfl).2, (Tv13.out.a.lt ga rfl).2, Tv13.out.rd.lt⟩
                have lt4_5 : b5 < v13.heap.size := (R5v13.out.lt b5 rfl).2
                clear Tv13 R5v13
                generalize v13.alloc (.cells #[.int .i64 (y0 - 3)] 2) = v21 at hHeld Tv21 R5v21 R4v21 ⊢
                generalize v13.heap.size = b4 at R4v21 lt4 lt4_5 ⊢
                refine wpAnyH_ready (rs := [16]) (by kernel_rfl) (by simp) ?_
                refine AllReadyH.cons (o := { dst := some 47, op := Go.Op.buildSlice 24 1 #[(0, Go.Operand.tmp 46)], type := 24, pos := "l11_fields.go:217", after := #[{ on := 15, ground := Go.Ground.data }], guard := none }) rfl (fun K hK => ?_) AllReadyH.nil
                go_simp
                refine hK.out _ _ (by (try dsimp only); go_keep) (fun hHeld2 => ?_)
                clear hK K hHeld
                have hHeld := hHeld2
                clear hHeld2
                try simp only [Act.put, List.setIfInBounds_toArray, List.set_cons_zero, List.set_cons_succ]
                have Tv22 : Hid (TR r w (v21.alloc (.cells #[.int .i64 (y1 + 2)] 2)) (.slice (some ⟨ge, 0, none⟩) ne ce) (.slice (some ⟨ga, 0, none⟩) k ca) E A) := Tv21.out.alloc (.cells #[.int .i64 (y1 + 2)] 2)
                have R5v22 : Hid ((v21.alloc (.cells #[.int .i64 (y1 + 2)] 2)).ownsRow (r + 1) 2 1 (.slice (some ⟨b5, 0, none⟩) 0 0) 0 []) := row_alloc R5v21.out (.cells #[.int .i64 (y1 + 2)] 2)
                have R4v22 : Hid ((v21.alloc (.cells #[.int .i64 (y1 + 2)] 2)).ownsRow (r + 1) 2 1 (.slice (some ⟨b4, 0, none⟩) 1 1) 1 [.int .i64 (y0 - 3)]) := row_alloc R4v21.out (.cells #[.int .i64 (y1 + 2)] 2)
                have R16v22 : Hid ((v21.alloc (.cells #[.int .i64 (y1 + 2)] 2)).ownsRow (r + 1) 2 1 (.slice (some ⟨v21.heap.size, 0, none⟩) 1 1) 1 [.int .i64 (y1 + 2)]) := World.ownsRow_lit v21 #[.int .i64 (y1 + 2)] 1 (by have := Tv21.out.rd.lt; omega) (by unfold maxLen; omega) rfl
                have lt16 : ge < v21.heap.size ∧ ga < v21.heap.size ∧ r < v21.heap.size := ⟨(Tv21.out.e.lt ge rfl).2, (Tv21.out.a.lt ga rfl).2, Tv21.out.rd.lt⟩
                have lt16_5 : b5 < v21.heap.size := (R5v21.out.lt b5 rfl).2
                have lt16_4 : b4 < v21.heap.size := (R4v21.out.lt b4 rfl).2
                clear Tv21 R5v21 R4v21
                generalize v21.alloc (.cells #[.int .i64 (y1 + 2)] 2) = v22 at hHeld Tv22 R5v22 R4v22 R16v22 ⊢
                generalize v21.heap.size = b16 at R16v22 lt16 lt16_5 lt16_4 ⊢
                refine wpAnyH_ready (rs := [17]) (by kernel_rfl) (by simp) ?_
                refine AllReadyH.cons (o := { dst := some 48, op := Go.Op.call { callee := Go.Callee.builtin Go.Builtin.append, args := #[Go.Operand.tmp 39, Go.Operand.tmp 47], argTypes := #[24, 24] }, type := 24, pos := "l11_fields.go:217", after := #[{ on := 8, ground := Go.Ground.data }, { on := 16, ground := Go.Ground.data }, { on := 8, ground := Go.Ground.chain }], guard := none }) rfl (fun K hK => ?_) AllReadyH.nil
                have lq : ge < v22.heap.size ∧ ga < v22.heap.size ∧ r < v22.heap.size := ⟨(Tv22.out.e.lt ge rfl).2, (Tv22.out.a.lt ga rfl).2, Tv22.out.rd.lt⟩
                have lq4 : b4 < v22.heap.size := (R4v22.out.lt b4 rfl).2
                refine step_append_lies _ (by rfl) _ _ 24 (by rfl) (r + 1) 2 i0 (.int .i64 0) 1 8 Try.underlying24 hi hz0 hz1 hz2 rfl (by decide) _ _ _ (by rfl) R5v22.out ⟨b16, 0, none⟩ 1 1 [.int .i64 (y1 + 2)] (by rfl) rfl (row_news R16v22.out) (by intro u hu; simp at hu; subst hu; rfl) (by decide) (by unfold maxLen; omega) (by omega) (by have := Tv22.out.rd.lt; omega) v22.heap.size rfl ?_
                intro b17 c17 v23 hown hgrow hat hlt
                replace hgrow : v22.grownBy v23 (some b5) := hgrow
                replace hat : b5 = b17 ∨ b17 = v22.heap.size := (by rcases hat with h | h; exact .inl (by simpa [Value.ownBlock] using h); exact .inr h)
                refine hK.out _ _ (by (try dsimp only); exact ⟨(grown_cell hgrow lq.1 (by simp; omega)).trans hHeld.1, (grown_cell hgrow lq.1 (by simp; omega)).trans hHeld.2⟩) (fun hHeld2 => ?_)
                clear hK K hHeld
                have hHeld := hHeld2
                clear hHeld2
                try simp only [Act.put, List.setIfInBounds_toArray, List.set_cons_zero, List.set_cons_succ]
                have Tv23 : Hid (TR r w v23 (.slice (some ⟨ge, 0, none⟩) ne ce) (.slice (some ⟨ga, 0, none⟩) k ca) E A) := Tv22.out.grown hgrow (by have := R5v22.out.lt b5 rfl; omega) (by simp [Value.ownBlock]; omega) (by simp [Value.ownBlock]; omega)
                have R17v23 : Hid (v23.ownsRow (r + 1) 2 1 (.slice (some ⟨b17, 0, none⟩) 1 c17) 1 [.int .i64 (y1 + 2)]) := hown
                have R4v23 : Hid (v23.ownsRow (r + 1) 2 1 (.slice (some ⟨b4, 0, none⟩) 1 1) 1 [.int .i64 (y0 - 3)]) := row_grown R4v22.out hgrow (fun g h x => by simp [Value.ownBlock] at h x; omega)
                have lt17 : ge ≠ b17 ∧ ga ≠ b17 ∧ b4 ≠ b17 := by omega
                clear hown hgrow hat hlt Tv22 R5v22 R4v22 R16v22
                refine wpAnyH_ready (rs := [18]) (by kernel_rfl) (by simp) ?_
                refine AllReadyH.cons (o := { dst := some 49, op := Go.Op.call { callee := Go.Callee.builtin Go.Builtin.append, args := #[Go.Operand.tmp 35, Go.Operand.tmp 48], argTypes := #[24, 24] }, type := 24, pos := "l11_fields.go:217", after := #[{ on := 4, ground := Go.Ground.data }, { on := 17, ground := Go.Ground.data }, { on := 17, ground := Go.Ground.chain }], guard := none }) rfl (fun K hK => ?_) AllReadyH.nil
                have lq : ge < v23.heap.size ∧ ga < v23.heap.size ∧ r < v23.heap.size := ⟨(Tv23.out.e.lt ge rfl).2, (Tv23.out.a.lt ga rfl).2, Tv23.out.rd.lt⟩
                refine step_append_lies _ (by rfl) _ _ 24 (by rfl) (r + 1) 2 i0 (.int .i64 0) 1 8 Try.underlying24 hi hz0 hz1 hz2 rfl (by decide) _ _ _ (by rfl) R4v23.out ⟨b17, 0, none⟩ 1 c17 [.int .i64 (y1 + 2)] (by rfl) rfl (row_news R17v23.out) (by intro u hu; simp at hu; subst hu; rfl) (by decide) (by unfold maxLen; omega) (by omega) (by have := Tv23.out.rd.lt; omega) v23.heap.size rfl ?_
                intro b18 c18 v24 hown hgrow hat hlt
                replace hgrow : v23.grownBy v24 (some b4) := hgrow
                replace hat : b4 = b18 ∨ b18 = v23.heap.size := (by rcases hat with h | h; exact .inl (by simpa [Value.ownBlock] using h); exact .inr h)
                refine hK.out _ _ (by (try dsimp only); exact ⟨(grown_cell hgrow lq.1 (by simp; omega)).trans hHeld.1, (grown_cell hgrow lq.1 (by simp; omega)).trans hHeld.2⟩) (fun hHeld2 => ?_)
                clear hK K hHeld
                have hHeld := hHeld2
                clear hHeld2
                try simp only [Act.put, List.setIfInBounds_toArray, List.set_cons_zero, List.set_cons_succ]
                have Tv24 : TR r w v24 (.slice (some ⟨ge, 0, none⟩) ne ce) (.slice (some ⟨ga, 0, none⟩) k ca) E A := Tv23.out.grown hgrow (by have := R4v23.out.lt b4 rfl; omega) (by simp [Value.ownBlock]; omega) (by simp [Value.ownBlock]; omega)
                have DF : Hid (DR r w v24 (.slice (some ⟨ge, 0, none⟩) ne ce) (.slice (some ⟨ga, 0, none⟩) k ca) (.slice (some ⟨b18, 0, none⟩) 2 c18) E A [y0 - 3, y1 + 2]) := ⟨Tv24, hown, fun g h => by simp [Value.ownBlock] at h; subst h; simp [Value.ownBlock]; omega⟩
                clear hown hgrow hat hlt Tv24 R4v23 R17v23 Tv23
                refine wpAnyH_take (i := 19) (oi := { dst := some 9, op := Go.Op.assign (Go.Operand.tmp 49), type := 24, pos := "l11_fields.go:217", after := #[{ on := 18, ground := Go.Ground.data }, { on := 18, ground := Go.Ground.chain }, { on := 0, ground := Go.Ground.phase }, { on := 1, ground := Go.Ground.phase }, { on := 2, ground := Go.Ground.phase }, { on := 3, ground := Go.Ground.phase }, { on := 4, ground := Go.Ground.phase }, { on := 5, ground := Go.Ground.phase }, { on := 6, ground := Go.Ground.phase }, { on := 7, ground := Go.Ground.phase }, { on := 8, ground := Go.Ground.phase }, { on := 9, ground := Go.Ground.phase }, { on := 10, ground := Go.Ground.phase }, { on := 11, ground := Go.Ground.phase }, { on := 12, ground := Go.Ground.phase }, { on := 13, ground := Go.Ground.phase }, { on := 14, ground := Go.Ground.phase }, { on := 15, ground := Go.Ground.phase }, { on := 16, ground := Go.Ground.phase }, { on := 17, ground := Go.Ground.phase }, { on := 18, ground := Go.Ground.phase }], guard := none }) (v := ?_) rfl (by kernel_rfl) (by kernel_rfl) (by kernel_rfl) (fun _ _ _ h => h) (Or.inl ⟨by rfl, ?_⟩) (by assumption) ?_
                rotate_left 1
                · (intro w hSw; (try dsimp only at hSw); go_simp); all_goals (with_reducible rfl)
                try simp only [Act.put, List.setIfInBounds_toArray, List.set_cons_zero, List.set_cons_succ]
                refine wpAnyH_done (by kernel_rfl) ?_ _
                go_wp2_with fail
                go_meet
                exact ⟨b18, 2, c18, [y0 - 3, y1 + 2], rfl, rfl, by omega, DF⟩
              · go_simp
                refine hK.out _ _ (by (try dsimp only); go_keep) (fun hHeld2 => ?_)
                clear hK K hHeld
                have hHeld := hHeld2
                clear hHeld2
                try simp only [Act.put, List.setIfInBounds_toArray, List.set_cons_zero, List.set_cons_succ]
                have Tv25 : Hid (TR r w (v13.alloc (.cells #[.int .i64 (y1 + 2)] 2)) (.slice (some ⟨ge, 0, none⟩) ne ce) (.slice (some ⟨ga, 0, none⟩) k ca) E A) := Tv13.out.alloc (.cells #[.int .i64 (y1 + 2)] 2)
                have R5v25 : Hid ((v13.alloc (.cells #[.int .i64 (y1 + 2)] 2)).ownsRow (r + 1) 2 1 (.slice (some ⟨b5, 0, none⟩) 0 0) 0 []) := row_alloc R5v13.out (.cells #[.int .i64 (y1 + 2)] 2)
                have R16v25 : Hid ((v13.alloc (.cells #[.int .i64 (y1 + 2)] 2)).ownsRow (r + 1) 2 1 (.slice (some ⟨v13.heap.size, 0, none⟩) 1 1) 1 [.int .i64 (y1 + 2)]) := World.ownsRow_lit v13 #[.int .i64 (y1 + 2)] 1 (by have := Tv13.out.rd.lt; omega) (by unfold maxLen; omega) rfl
                have lt16 : ge < v13.heap.size ∧ ga < v13.heap.size ∧ r < v13.heap.size := ⟨(Tv13.out.e.lt ge rfl).2, (Tv13.out.a.lt ga rfl).2, Tv13.out.rd.lt⟩
                have lt16_5 : b5 < v13.heap.size := (R5v13.out.lt b5 rfl).2
                clear Tv13 R5v13
                generalize v13.alloc (.cells #[.int .i64 (y1 + 2)] 2) = v25 at hHeld Tv25 R5v25 R16v25 ⊢
                generalize v13.heap.size = b16 at R16v25 lt16 lt16_5 ⊢
                refine wpAnyH_ready (rs := [4, 17]) (by kernel_rfl) (by simp) ?_
                refine AllReadyH.cons (o := { dst := some 35, op := Go.Op.buildSlice 24 1 #[(0, Go.Operand.tmp 34)], type := 24, pos := "l11_fields.go:217", after := #[{ on := 3, ground := Go.Ground.data }], guard := none }) rfl (fun K hK => ?_) (AllReadyH.cons (o := { dst := some 48, op := Go.Op.call { callee := Go.Callee.builtin Go.Builtin.append, args := #[Go.Operand.tmp 39, Go.Operand.tmp 47], argTypes := #[24, 24] }, type := 24, pos := "l11_fields.go:217", after := #[{ on := 8, ground := Go.Ground.data }, { on := 16, ground := Go.Ground.data }, { on := 8, ground := Go.Ground.chain }], guard := none }) rfl (fun K hK => ?_) AllReadyH.nil)
                · go_simp
                  refine hK.out _ _ (by (try dsimp only); go_keep) (fun hHeld2 => ?_)
                  clear hK K hHeld
                  have hHeld := hHeld2
                  clear hHeld2
                  try simp only [Act.put, List.setIfInBounds_toArray, List.set_cons_zero, List.set_cons_succ]
                  have Tv26 : Hid (TR r w (v25.alloc (.cells #[.int .i64 (y0 - 3)] 2)) (.slice (some ⟨ge, 0, none⟩) ne ce) (.slice (some ⟨ga, 0, none⟩) k ca) E A) := Tv25.out.alloc (.cells #[.int .i64 (y0 - 3)] 2)
                  have R5v26 : Hid ((v25.alloc (.cells #[.int .i64 (y0 - 3)] 2)).ownsRow (r + 1) 2 1 (.slice (some ⟨b5, 0, none⟩) 0 0) 0 []) := row_alloc R5v25.out (.cells #[.int .i64 (y0 - 3)] 2)
                  have R16v26 : Hid ((v25.alloc (.cells #[.int .i64 (y0 - 3)] 2)).ownsRow (r + 1) 2 1 (.slice (some ⟨b16, 0, none⟩) 1 1) 1 [.int .i64 (y1 + 2)]) := row_alloc R16v25.out (.cells #[.int .i64 (y0 - 3)] 2)
                  have R4v26 : Hid ((v25.alloc (.cells #[.int .i64 (y0 - 3)] 2)).ownsRow (r + 1) 2 1 (.slice (some ⟨v25.heap.size, 0, none⟩) 1 1) 1 [.int .i64 (y0 - 3)]) := World.ownsRow_lit v25 #[.int .i64 (y0 - 3)] 1 (by have := Tv25.out.rd.lt; omega) (by unfold maxLen; omega) rfl
                  have lt4 : ge < v25.heap.size ∧ ga < v25.heap.size ∧ r < v25.heap.size := ⟨(Tv25.out.e.lt ge rfl).2, (Tv25.out.a.lt ga rfl).2, Tv25.out.rd.lt⟩
                  have lt4_5 : b5 < v25.heap.size := (R5v25.out.lt b5 rfl).2
                  have lt4_16 : b16 < v25.heap.size := (R16v25.out.lt b16 rfl).2
                  clear Tv25 R5v25 R16v25
                  generalize v25.alloc (.cells #[.int .i64 (y0 - 3)] 2) = v26 at hHeld Tv26 R5v26 R16v26 R4v26 ⊢
                  generalize v25.heap.size = b4 at R4v26 lt4 lt4_5 lt4_16 ⊢
                  refine wpAnyH_ready (rs := [17]) (by kernel_rfl) (by simp) ?_
                  refine AllReadyH.cons (o := { dst := some 48, op := Go.Op.call { callee := Go.Callee.builtin Go.Builtin.append, args := #[Go.Operand.tmp 39, Go.Operand.tmp 47], argTypes := #[24, 24] }, type := 24, pos := "l11_fields.go:217", after := #[{ on := 8, ground := Go.Ground.data }, { on := 16, ground := Go.Ground.data }, { on := 8, ground := Go.Ground.chain }], guard := none }) rfl (fun K hK => ?_) AllReadyH.nil
                  have lq : ge < v26.heap.size ∧ ga < v26.heap.size ∧ r < v26.heap.size := ⟨(Tv26.out.e.lt ge rfl).2, (Tv26.out.a.lt ga rfl).2, Tv26.out.rd.lt⟩
                  have lq4 : b4 < v26.heap.size := (R4v26.out.lt b4 rfl).2
                  refine step_append_lies _ (by rfl) _ _ 24 (by rfl) (r + 1) 2 i0 (.int .i64 0) 1 8 Try.underlying24 hi hz0 hz1 hz2 rfl (by decide) _ _ _ (by rfl) R5v26.out ⟨b16, 0, none⟩ 1 1 [.int .i64 (y1 + 2)] (by rfl) rfl (row_news R16v26.out) (by intro u hu; simp at hu; subst hu; rfl) (by decide) (by unfold maxLen; omega) (by omega) (by have := Tv26.out.rd.lt; omega) v26.heap.size rfl ?_
                  intro b17 c17 v27 hown hgrow hat hlt
                  replace hgrow : v26.grownBy v27 (some b5) := hgrow
                  replace hat : b5 = b17 ∨ b17 = v26.heap.size := (by rcases hat with h | h; exact .inl (by simpa [Value.ownBlock] using h); exact .inr h)
                  refine hK.out _ _ (by (try dsimp only); exact ⟨(grown_cell hgrow lq.1 (by simp; omega)).trans hHeld.1, (grown_cell hgrow lq.1 (by simp; omega)).trans hHeld.2⟩) (fun hHeld2 => ?_)
                  clear hK K hHeld
                  have hHeld := hHeld2
                  clear hHeld2
                  try simp only [Act.put, List.setIfInBounds_toArray, List.set_cons_zero, List.set_cons_succ]
                  have Tv27 : Hid (TR r w v27 (.slice (some ⟨ge, 0, none⟩) ne ce) (.slice (some ⟨ga, 0, none⟩) k ca) E A) := Tv26.out.grown hgrow (by have := R5v26.out.lt b5 rfl; omega) (by simp [Value.ownBlock]; omega) (by simp [Value.ownBlock]; omega)
                  have R17v27 : Hid (v27.ownsRow (r + 1) 2 1 (.slice (some ⟨b17, 0, none⟩) 1 c17) 1 [.int .i64 (y1 + 2)]) := hown
                  have R4v27 : Hid (v27.ownsRow (r + 1) 2 1 (.slice (some ⟨b4, 0, none⟩) 1 1) 1 [.int .i64 (y0 - 3)]) := row_grown R4v26.out hgrow (fun g h x => by simp [Value.ownBlock] at h x; omega)
                  have lt17 : ge ≠ b17 ∧ ga ≠ b17 ∧ b4 ≠ b17 := by omega
                  clear hown hgrow hat hlt Tv26 R5v26 R16v26 R4v26
                  refine wpAnyH_ready (rs := [18]) (by kernel_rfl) (by simp) ?_
                  refine AllReadyH.cons (o := { dst := some 49, op := Go.Op.call { callee := Go.Callee.builtin Go.Builtin.append, args := #[Go.Operand.tmp 35, Go.Operand.tmp 48], argTypes := #[24, 24] }, type := 24, pos := "l11_fields.go:217", after := #[{ on := 4, ground := Go.Ground.data }, { on := 17, ground := Go.Ground.data }, { on := 17, ground := Go.Ground.chain }], guard := none }) rfl (fun K hK => ?_) AllReadyH.nil
                  have lq : ge < v27.heap.size ∧ ga < v27.heap.size ∧ r < v27.heap.size := ⟨(Tv27.out.e.lt ge rfl).2, (Tv27.out.a.lt ga rfl).2, Tv27.out.rd.lt⟩
                  refine step_append_lies _ (by rfl) _ _ 24 (by rfl) (r + 1) 2 i0 (.int .i64 0) 1 8 Try.underlying24 hi hz0 hz1 hz2 rfl (by decide) _ _ _ (by rfl) R4v27.out ⟨b17, 0, none⟩ 1 c17 [.int .i64 (y1 + 2)] (by rfl) rfl (row_news R17v27.out) (by intro u hu; simp at hu; subst hu; rfl) (by decide) (by unfold maxLen; omega) (by omega) (by have := Tv27.out.rd.lt; omega) v27.heap.size rfl ?_
                  intro b18 c18 v28 hown hgrow hat hlt
                  replace hgrow : v27.grownBy v28 (some b4) := hgrow
                  replace hat : b4 = b18 ∨ b18 = v27.heap.size := (by rcases hat with h | h; exact .inl (by simpa [Value.ownBlock] using h); exact .inr h)
                  refine hK.out _ _ (by (try dsimp only); exact ⟨(grown_cell hgrow lq.1 (by simp; omega)).trans hHeld.1, (grown_cell hgrow lq.1 (by simp; omega)).trans hHeld.2⟩) (fun hHeld2 => ?_)
                  clear hK K hHeld
                  have hHeld := hHeld2
                  clear hHeld2
                  try simp only [Act.put, List.setIfInBounds_toArray, List.set_cons_zero, List.set_cons_succ]
                  have Tv28 : TR r w v28 (.slice (some ⟨ge, 0, none⟩) ne ce) (.slice (some ⟨ga, 0, none⟩) k ca) E A := Tv27.out.grown hgrow (by have := R4v27.out.lt b4 rfl; omega) (by simp [Value.ownBlock]; omega) (by simp [Value.ownBlock]; omega)
                  have DF : Hid (DR r w v28 (.slice (some ⟨ge, 0, none⟩) ne ce) (.slice (some ⟨ga, 0, none⟩) k ca) (.slice (some ⟨b18, 0, none⟩) 2 c18) E A [y0 - 3, y1 + 2]) := ⟨Tv28, hown, fun g h => by simp [Value.ownBlock] at h; subst h; simp [Value.ownBlock]; omega⟩
                  clear hown hgrow hat hlt Tv28 R4v27 R17v27 Tv27
                  refine wpAnyH_take (i := 19) (oi := { dst := some 9, op := Go.Op.assign (Go.Operand.tmp 49), type := 24, pos := "l11_fields.go:217", after := #[{ on := 18, ground := Go.Ground.data }, { on := 18, ground := Go.Ground.chain }, { on := 0, ground := Go.Ground.phase }, { on := 1, ground := Go.Ground.phase }, { on := 2, ground := Go.Ground.phase }, { on := 3, ground := Go.Ground.phase }, { on := 4, ground := Go.Ground.phase }, { on := 5, ground := Go.Ground.phase }, { on := 6, ground := Go.Ground.phase }, { on := 7, ground := Go.Ground.phase }, { on := 8, ground := Go.Ground.phase }, { on := 9, ground := Go.Ground.phase }, { on := 10, ground := Go.Ground.phase }, { on := 11, ground := Go.Ground.phase }, { on := 12, ground := Go.Ground.phase }, { on := 13, ground := Go.Ground.phase }, { on := 14, ground := Go.Ground.phase }, { on := 15, ground := Go.Ground.phase }, { on := 16, ground := Go.Ground.phase }, { on := 17, ground := Go.Ground.phase }, { on := 18, ground := Go.Ground.phase }], guard := none }) (v := ?_) rfl (by kernel_rfl) (by kernel_rfl) (by kernel_rfl) (fun _ _ _ h => h) (Or.inl ⟨by rfl, ?_⟩) (by assumption) ?_
                  rotate_left 1
                  · (intro w hSw; (try dsimp only at hSw); go_simp); all_goals (with_reducible rfl)
                  try simp only [Act.put, List.setIfInBounds_toArray, List.set_cons_zero, List.set_cons_succ]
                  refine wpAnyH_done (by kernel_rfl) ?_ _
                  go_wp2_with fail
                  go_meet
                  exact ⟨b18, 2, c18, [y0 - 3, y1 + 2], rfl, rfl, by omega, DF⟩
                · have lq : ge < v25.heap.size ∧ ga < v25.heap.size ∧ r < v25.heap.size := ⟨(Tv25.out.e.lt ge rfl).2, (Tv25.out.a.lt ga rfl).2, Tv25.out.rd.lt⟩
                  refine step_append_lies _ (by rfl) _ _ 24 (by rfl) (r + 1) 2 i0 (.int .i64 0) 1 8 Try.underlying24 hi hz0 hz1 hz2 rfl (by decide) _ _ _ (by rfl) R5v25.out ⟨b16, 0, none⟩ 1 1 [.int .i64 (y1 + 2)] (by rfl) rfl (row_news R16v25.out) (by intro u hu; simp at hu; subst hu; rfl) (by decide) (by unfold maxLen; omega) (by omega) (by have := Tv25.out.rd.lt; omega) v25.heap.size rfl ?_
                  intro b17 c17 v29 hown hgrow hat hlt
                  replace hgrow : v25.grownBy v29 (some b5) := hgrow
                  replace hat : b5 = b17 ∨ b17 = v25.heap.size := (by rcases hat with h | h; exact .inl (by simpa [Value.ownBlock] using h); exact .inr h)
                  refine hK.out _ _ (by (try dsimp only); exact ⟨(grown_cell hgrow lq.1 (by simp; omega)).trans hHeld.1, (grown_cell hgrow lq.1 (by simp; omega)).trans hHeld.2⟩) (fun hHeld2 => ?_)
                  clear hK K hHeld
                  have hHeld := hHeld2
                  clear hHeld2
                  try simp only [Act.put, List.setIfInBounds_toArray, List.set_cons_zero, List.set_cons_succ]
                  have Tv29 : Hid (TR r w v29 (.slice (some ⟨ge, 0, none⟩) ne ce) (.slice (some ⟨ga, 0, none⟩) k ca) E A) := Tv25.out.grown hgrow (by have := R5v25.out.lt b5 rfl; omega) (by simp [Value.ownBlock]; omega) (by simp [Value.ownBlock]; omega)
                  have R17v29 : Hid (v29.ownsRow (r + 1) 2 1 (.slice (some ⟨b17, 0, none⟩) 1 c17) 1 [.int .i64 (y1 + 2)]) := hown
                  have lt17 : ge ≠ b17 ∧ ga ≠ b17 := by omega
                  clear hown hgrow hat hlt Tv25 R5v25 R16v25
                  refine wpAnyH_ready (rs := [4]) (by kernel_rfl) (by simp) ?_
                  refine AllReadyH.cons (o := { dst := some 35, op := Go.Op.buildSlice 24 1 #[(0, Go.Operand.tmp 34)], type := 24, pos := "l11_fields.go:217", after := #[{ on := 3, ground := Go.Ground.data }], guard := none }) rfl (fun K hK => ?_) AllReadyH.nil
                  go_simp
                  refine hK.out _ _ (by (try dsimp only); go_keep) (fun hHeld2 => ?_)
                  clear hK K hHeld
                  have hHeld := hHeld2
                  clear hHeld2
                  try simp only [Act.put, List.setIfInBounds_toArray, List.set_cons_zero, List.set_cons_succ]
                  have Tv30 : Hid (TR r w (v29.alloc (.cells #[.int .i64 (y0 - 3)] 2)) (.slice (some ⟨ge, 0, none⟩) ne ce) (.slice (some ⟨ga, 0, none⟩) k ca) E A) := Tv29.out.alloc (.cells #[.int .i64 (y0 - 3)] 2)
                  have R17v30 : Hid ((v29.alloc (.cells #[.int .i64 (y0 - 3)] 2)).ownsRow (r + 1) 2 1 (.slice (some ⟨b17, 0, none⟩) 1 c17) 1 [.int .i64 (y1 + 2)]) := row_alloc R17v29.out (.cells #[.int .i64 (y0 - 3)] 2)
                  have R4v30 : Hid ((v29.alloc (.cells #[.int .i64 (y0 - 3)] 2)).ownsRow (r + 1) 2 1 (.slice (some ⟨v29.heap.size, 0, none⟩) 1 1) 1 [.int .i64 (y0 - 3)]) := World.ownsRow_lit v29 #[.int .i64 (y0 - 3)] 1 (by have := Tv29.out.rd.lt; omega) (by unfold maxLen; omega) rfl
                  have lt4 : ge < v29.heap.size ∧ ga < v29.heap.size ∧ r < v29.heap.size := ⟨(Tv29.out.e.lt ge rfl).2, (Tv29.out.a.lt ga rfl).2, Tv29.out.rd.lt⟩
                  have lt4_17 : b17 < v29.heap.size := (R17v29.out.lt b17 rfl).2
                  clear Tv29 R17v29
                  generalize v29.alloc (.cells #[.int .i64 (y0 - 3)] 2) = v30 at hHeld Tv30 R17v30 R4v30 ⊢
                  generalize v29.heap.size = b4 at R4v30 lt4 lt4_17 ⊢
                  refine wpAnyH_ready (rs := [18]) (by kernel_rfl) (by simp) ?_
                  refine AllReadyH.cons (o := { dst := some 49, op := Go.Op.call { callee := Go.Callee.builtin Go.Builtin.append, args := #[Go.Operand.tmp 35, Go.Operand.tmp 48], argTypes := #[24, 24] }, type := 24, pos := "l11_fields.go:217", after := #[{ on := 4, ground := Go.Ground.data }, { on := 17, ground := Go.Ground.data }, { on := 17, ground := Go.Ground.chain }], guard := none }) rfl (fun K hK => ?_) AllReadyH.nil
                  have lq : ge < v30.heap.size ∧ ga < v30.heap.size ∧ r < v30.heap.size := ⟨(Tv30.out.e.lt ge rfl).2, (Tv30.out.a.lt ga rfl).2, Tv30.out.rd.lt⟩
                  refine step_append_lies _ (by rfl) _ _ 24 (by rfl) (r + 1) 2 i0 (.int .i64 0) 1 8 Try.underlying24 hi hz0 hz1 hz2 rfl (by decide) _ _ _ (by rfl) R4v30.out ⟨b17, 0, none⟩ 1 c17 [.int .i64 (y1 + 2)] (by rfl) rfl (row_news R17v30.out) (by intro u hu; simp at hu; subst hu; rfl) (by decide) (by unfold maxLen; omega) (by omega) (by have := Tv30.out.rd.lt; omega) v30.heap.size rfl ?_
                  intro b18 c18 v31 hown hgrow hat hlt
                  replace hgrow : v30.grownBy v31 (some b4) := hgrow
                  replace hat : b4 = b18 ∨ b18 = v30.heap.size := (by rcases hat with h | h; exact .inl (by simpa [Value.ownBlock] using h); exact .inr h)
                  refine hK.out _ _ (by (try dsimp only); exact ⟨(grown_cell hgrow lq.1 (by simp; omega)).trans hHeld.1, (grown_cell hgrow lq.1 (by simp; omega)).trans hHeld.2⟩) (fun hHeld2 => ?_)
                  clear hK K hHeld
                  have hHeld := hHeld2
                  clear hHeld2
                  try simp only [Act.put, List.setIfInBounds_toArray, List.set_cons_zero, List.set_cons_succ]
                  have Tv31 : TR r w v31 (.slice (some ⟨ge, 0, none⟩) ne ce) (.slice (some ⟨ga, 0, none⟩) k ca) E A := Tv30.out.grown hgrow (by have := R4v30.out.lt b4 rfl; omega) (by simp [Value.ownBlock]; omega) (by simp [Value.ownBlock]; omega)
                  have DF : Hid (DR r w v31 (.slice (some ⟨ge, 0, none⟩) ne ce) (.slice (some ⟨ga, 0, none⟩) k ca) (.slice (some ⟨b18, 0, none⟩) 2 c18) E A [y0 - 3, y1 + 2]) := ⟨Tv31, hown, fun g h => by simp [Value.ownBlock] at h; subst h; simp [Value.ownBlock]; omega⟩
                  clear hown hgrow hat hlt Tv31 R4v30 R17v30 Tv30
                  refine wpAnyH_take (i := 19) (oi := { dst := some 9, op := Go.Op.assign (Go.Operand.tmp 49), type := 24, pos := "l11_fields.go:217", after := #[{ on := 18, ground := Go.Ground.data }, { on := 18, ground := Go.Ground.chain }, { on := 0, ground := Go.Ground.phase }, { on := 1, ground := Go.Ground.phase }, { on := 2, ground := Go.Ground.phase }, { on := 3, ground := Go.Ground.phase }, { on := 4, ground := Go.Ground.phase }, { on := 5, ground := Go.Ground.phase }, { on := 6, ground := Go.Ground.phase }, { on := 7, ground := Go.Ground.phase }, { on := 8, ground := Go.Ground.phase }, { on := 9, ground := Go.Ground.phase }, { on := 10, ground := Go.Ground.phase }, { on := 11, ground := Go.Ground.phase }, { on := 12, ground := Go.Ground.phase }, { on := 13, ground := Go.Ground.phase }, { on := 14, ground := Go.Ground.phase }, { on := 15, ground := Go.Ground.phase }, { on := 16, ground := Go.Ground.phase }, { on := 17, ground := Go.Ground.phase }, { on := 18, ground := Go.Ground.phase }], guard := none }) (v := ?_) rfl (by kernel_rfl) (by kernel_rfl) (by kernel_rfl) (fun _ _ _ h => h) (Or.inl ⟨by rfl, ?_⟩) (by assumption) ?_
                  rotate_left 1
                  · (intro w hSw; (try dsimp only at hSw); go_simp); all_goals (with_reducible rfl)
                  try simp only [Act.put, List.setIfInBounds_toArray, List.set_cons_zero, List.set_cons_succ]
                  refine wpAnyH_done (by kernel_rfl) ?_ _
                  go_wp2_with fail
                  go_meet
                  exact ⟨b18, 2, c18, [y0 - 3, y1 + 2], rfl, rfl, by omega, DF⟩
            · go_simp
              refine hK.out _ _ (by (try dsimp only); go_keep) (fun hHeld2 => ?_)
              clear hK K hHeld
              have hHeld := hHeld2
              clear hHeld2
              try simp only [Act.put, List.setIfInBounds_toArray, List.set_cons_zero, List.set_cons_succ]
              have Tv32 : Hid (TR r w (v13.alloc (.cells #[.int .i64 (y1 + 2)] 2)) (.slice (some ⟨ge, 0, none⟩) ne ce) (.slice (some ⟨ga, 0, none⟩) k ca) E A) := Tv13.out.alloc (.cells #[.int .i64 (y1 + 2)] 2)
              have R5v32 : Hid ((v13.alloc (.cells #[.int .i64 (y1 + 2)] 2)).ownsRow (r + 1) 2 1 (.slice (some ⟨b5, 0, none⟩) 0 0) 0 []) := row_alloc R5v13.out (.cells #[.int .i64 (y1 + 2)] 2)
              have R16v32 : Hid ((v13.alloc (.cells #[.int .i64 (y1 + 2)] 2)).ownsRow (r + 1) 2 1 (.slice (some ⟨v13.heap.size, 0, none⟩) 1 1) 1 [.int .i64 (y1 + 2)]) := World.ownsRow_lit v13 #[.int .i64 (y1 + 2)] 1 (by have := Tv13.out.rd.lt; omega) (by unfold maxLen; omega) rfl
              have lt16 : ge < v13.heap.size ∧ ga < v13.heap.size ∧ r < v13.heap.size := ⟨(Tv13.out.e.lt ge rfl).2, (Tv13.out.a.lt ga rfl).2, Tv13.out.rd.lt⟩
              have lt16_5 : b5 < v13.heap.size := (R5v13.out.lt b5 rfl).2
              clear Tv13 R5v13
              generalize v13.alloc (.cells #[.int .i64 (y1 + 2)] 2) = v32 at hHeld Tv32 R5v32 R16v32 ⊢
              generalize v13.heap.size = b16 at R16v32 lt16 lt16_5 ⊢
              refine wpAnyH_ready (rs := [4, 8]) (by kernel_rfl) (by simp) ?_
              refine AllReadyH.cons (o := { dst := some 35, op := Go.Op.buildSlice 24 1 #[(0, Go.Operand.tmp 34)], type := 24, pos := "l11_fields.go:217", after := #[{ on := 3, ground := Go.Ground.data }], guard := none }) rfl (fun K hK => ?_) (AllReadyH.cons (o := { dst := some 39, op := Go.Op.call { callee := Go.Callee.builtin Go.Builtin.append, args := #[Go.Operand.tmp 36, Go.Operand.tmp 38], argTypes := #[24, 24] }, type := 24, pos := "l11_fields.go:217", after := #[{ on := 5, ground := Go.Ground.data }, { on := 7, ground := Go.Ground.data }], guard := none }) rfl (fun K hK => ?_) AllReadyH.nil)
              · go_simp
                refine hK.out _ _ (by (try dsimp only); go_keep) (fun hHeld2 => ?_)
                clear hK K hHeld
                have hHeld := hHeld2
                clear hHeld2
                try simp only [Act.put, List.setIfInBounds_toArray, List.set_cons_zero, List.set_cons_succ]
                have Tv33 : Hid (TR r w (v32.alloc (.cells #[.int .i64 (y0 - 3)] 2)) (.slice (some ⟨ge, 0, none⟩) ne ce) (.slice (some ⟨ga, 0, none⟩) k ca) E A) := Tv32.out.alloc (.cells #[.int .i64 (y0 - 3)] 2)
                have R5v33 : Hid ((v32.alloc (.cells #[.int .i64 (y0 - 3)] 2)).ownsRow (r + 1) 2 1 (.slice (some ⟨b5, 0, none⟩) 0 0) 0 []) := row_alloc R5v32.out (.cells #[.int .i64 (y0 - 3)] 2)
                have R16v33 : Hid ((v32.alloc (.cells #[.int .i64 (y0 - 3)] 2)).ownsRow (r + 1) 2 1 (.slice (some ⟨b16, 0, none⟩) 1 1) 1 [.int .i64 (y1 + 2)]) := row_alloc R16v32.out (.cells #[.int .i64 (y0 - 3)] 2)
                have R4v33 : Hid ((v32.alloc (.cells #[.int .i64 (y0 - 3)] 2)).ownsRow (r + 1) 2 1 (.slice (some ⟨v32.heap.size, 0, none⟩) 1 1) 1 [.int .i64 (y0 - 3)]) := World.ownsRow_lit v32 #[.int .i64 (y0 - 3)] 1 (by have := Tv32.out.rd.lt; omega) (by unfold maxLen; omega) rfl
                have lt4 : ge < v32.heap.size ∧ ga < v32.heap.size ∧ r < v32.heap.size := ⟨(Tv32.out.e.lt ge rfl).2, (Tv32.out.a.lt ga rfl).2, Tv32.out.rd.lt⟩
                have lt4_5 : b5 < v32.heap.size := (R5v32.out.lt b5 rfl).2
                have lt4_16 : b16 < v32.heap.size := (R16v32.out.lt b16 rfl).2
                clear Tv32 R5v32 R16v32
                generalize v32.alloc (.cells #[.int .i64 (y0 - 3)] 2) = v33 at hHeld Tv33 R5v33 R16v33 R4v33 ⊢
                generalize v32.heap.size = b4 at R4v33 lt4 lt4_5 lt4_16 ⊢
                refine wpAnyH_ready (rs := [8]) (by kernel_rfl) (by simp) ?_
                refine AllReadyH.cons (o := { dst := some 39, op := Go.Op.call { callee := Go.Callee.builtin Go.Builtin.append, args := #[Go.Operand.tmp 36, Go.Operand.tmp 38], argTypes := #[24, 24] }, type := 24, pos := "l11_fields.go:217", after := #[{ on := 5, ground := Go.Ground.data }, { on := 7, ground := Go.Ground.data }], guard := none }) rfl (fun K hK => ?_) AllReadyH.nil
                go_simp
                refine hK.out _ _ (by (try dsimp only); exact hHeld) (fun hHeld2 => ?_)
                clear hK K hHeld
                have hHeld := hHeld2
                clear hHeld2
                try simp only [Act.put, List.setIfInBounds_toArray, List.set_cons_zero, List.set_cons_succ]
                refine wpAnyH_ready (rs := [17]) (by kernel_rfl) (by simp) ?_
                refine AllReadyH.cons (o := { dst := some 48, op := Go.Op.call { callee := Go.Callee.builtin Go.Builtin.append, args := #[Go.Operand.tmp 39, Go.Operand.tmp 47], argTypes := #[24, 24] }, type := 24, pos := "l11_fields.go:217", after := #[{ on := 8, ground := Go.Ground.data }, { on := 16, ground := Go.Ground.data }, { on := 8, ground := Go.Ground.chain }], guard := none }) rfl (fun K hK => ?_) AllReadyH.nil
                have lq : ge < v33.heap.size ∧ ga < v33.heap.size ∧ r < v33.heap.size := ⟨(Tv33.out.e.lt ge rfl).2, (Tv33.out.a.lt ga rfl).2, Tv33.out.rd.lt⟩
                have lq4 : b4 < v33.heap.size := (R4v33.out.lt b4 rfl).2
                refine step_append_lies _ (by rfl) _ _ 24 (by rfl) (r + 1) 2 i0 (.int .i64 0) 1 8 Try.underlying24 hi hz0 hz1 hz2 rfl (by decide) _ _ _ (by rfl) R5v33.out ⟨b16, 0, none⟩ 1 1 [.int .i64 (y1 + 2)] (by rfl) rfl (row_news R16v33.out) (by intro u hu; simp at hu; subst hu; rfl) (by decide) (by unfold maxLen; omega) (by omega) (by have := Tv33.out.rd.lt; omega) v33.heap.size rfl ?_
                intro b17 c17 v34 hown hgrow hat hlt
                replace hgrow : v33.grownBy v34 (some b5) := hgrow
                replace hat : b5 = b17 ∨ b17 = v33.heap.size := (by rcases hat with h | h; exact .inl (by simpa [Value.ownBlock] using h); exact .inr h)
                refine hK.out _ _ (by (try dsimp only); exact ⟨(grown_cell hgrow lq.1 (by simp; omega)).trans hHeld.1, (grown_cell hgrow lq.1 (by simp; omega)).trans hHeld.2⟩) (fun hHeld2 => ?_)
                clear hK K hHeld
                have hHeld := hHeld2
                clear hHeld2
                try simp only [Act.put, List.setIfInBounds_toArray, List.set_cons_zero, List.set_cons_succ]
                have Tv34 : Hid (TR r w v34 (.slice (some ⟨ge, 0, none⟩) ne ce) (.slice (some ⟨ga, 0, none⟩) k ca) E A) := Tv33.out.grown hgrow (by have := R5v33.out.lt b5 rfl; omega) (by simp [Value.ownBlock]; omega) (by simp [Value.ownBlock]; omega)
                have R17v34 : Hid (v34.ownsRow (r + 1) 2 1 (.slice (some ⟨b17, 0, none⟩) 1 c17) 1 [.int .i64 (y1 + 2)]) := hown
                have R4v34 : Hid (v34.ownsRow (r + 1) 2 1 (.slice (some ⟨b4, 0, none⟩) 1 1) 1 [.int .i64 (y0 - 3)]) := row_grown R4v33.out hgrow (fun g h x => by simp [Value.ownBlock] at h x; omega)
                have lt17 : ge ≠ b17 ∧ ga ≠ b17 ∧ b4 ≠ b17 := by omega
                clear hown hgrow hat hlt Tv33 R5v33 R16v33 R4v33
                refine wpAnyH_ready (rs := [18]) (by kernel_rfl) (by simp) ?_
                refine AllReadyH.cons (o := { dst := some 49, op := Go.Op.call { callee := Go.Callee.builtin Go.Builtin.append, args := #[Go.Operand.tmp 35, Go.Operand.tmp 48], argTypes := #[24, 24] }, type := 24, pos := "l11_fields.go:217", after := #[{ on := 4, ground := Go.Ground.data }, { on := 17, ground := Go.Ground.data }, { on := 17, ground := Go.Ground.chain }], guard := none }) rfl (fun K hK => ?_) AllReadyH.nil
                have lq : ge < v34.heap.size ∧ ga < v34.heap.size ∧ r < v34.heap.size := ⟨(Tv34.out.e.lt ge rfl).2, (Tv34.out.a.lt ga rfl).2, Tv34.out.rd.lt⟩
                refine step_append_lies _ (by rfl) _ _ 24 (by rfl) (r + 1) 2 i0 (.int .i64 0) 1 8 Try.underlying24 hi hz0 hz1 hz2 rfl (by decide) _ _ _ (by rfl) R4v34.out ⟨b17, 0, none⟩ 1 c17 [.int .i64 (y1 + 2)] (by rfl) rfl (row_news R17v34.out) (by intro u hu; simp at hu; subst hu; rfl) (by decide) (by unfold maxLen; omega) (by omega) (by have := Tv34.out.rd.lt; omega) v34.heap.size rfl ?_
                intro b18 c18 v35 hown hgrow hat hlt
                replace hgrow : v34.grownBy v35 (some b4) := hgrow
                replace hat : b4 = b18 ∨ b18 = v34.heap.size := (by rcases hat with h | h; exact .inl (by simpa [Value.ownBlock] using h); exact .inr h)
                refine hK.out _ _ (by (try dsimp only); exact ⟨(grown_cell hgrow lq.1 (by simp; omega)).trans hHeld.1, (grown_cell hgrow lq.1 (by simp; omega)).trans hHeld.2⟩) (fun hHeld2 => ?_)
                clear hK K hHeld
                have hHeld := hHeld2
                clear hHeld2
                try simp only [Act.put, List.setIfInBounds_toArray, List.set_cons_zero, List.set_cons_succ]
                have Tv35 : TR r w v35 (.slice (some ⟨ge, 0, none⟩) ne ce) (.slice (some ⟨ga, 0, none⟩) k ca) E A := Tv34.out.grown hgrow (by have := R4v34.out.lt b4 rfl; omega) (by simp [Value.ownBlock]; omega) (by simp [Value.ownBlock]; omega)
                have DF : Hid (DR r w v35 (.slice (some ⟨ge, 0, none⟩) ne ce) (.slice (some ⟨ga, 0, none⟩) k ca) (.slice (some ⟨b18, 0, none⟩) 2 c18) E A [y0 - 3, y1 + 2]) := ⟨Tv35, hown, fun g h => by simp [Value.ownBlock] at h; subst h; simp [Value.ownBlock]; omega⟩
                clear hown hgrow hat hlt Tv35 R4v34 R17v34 Tv34
                refine wpAnyH_take (i := 19) (oi := { dst := some 9, op := Go.Op.assign (Go.Operand.tmp 49), type := 24, pos := "l11_fields.go:217", after := #[{ on := 18, ground := Go.Ground.data }, { on := 18, ground := Go.Ground.chain }, { on := 0, ground := Go.Ground.phase }, { on := 1, ground := Go.Ground.phase }, { on := 2, ground := Go.Ground.phase }, { on := 3, ground := Go.Ground.phase }, { on := 4, ground := Go.Ground.phase }, { on := 5, ground := Go.Ground.phase }, { on := 6, ground := Go.Ground.phase }, { on := 7, ground := Go.Ground.phase }, { on := 8, ground := Go.Ground.phase }, { on := 9, ground := Go.Ground.phase }, { on := 10, ground := Go.Ground.phase }, { on := 11, ground := Go.Ground.phase }, { on := 12, ground := Go.Ground.phase }, { on := 13, ground := Go.Ground.phase }, { on := 14, ground := Go.Ground.phase }, { on := 15, ground := Go.Ground.phase }, { on := 16, ground := Go.Ground.phase }, { on := 17, ground := Go.Ground.phase }, { on := 18, ground := Go.Ground.phase }], guard := none }) (v := ?_) rfl (by kernel_rfl) (by kernel_rfl) (by kernel_rfl) (fun _ _ _ h => h) (Or.inl ⟨by rfl, ?_⟩) (by assumption) ?_
                rotate_left 1
                · (intro w hSw; (try dsimp only at hSw); go_simp); all_goals (with_reducible rfl)
                try simp only [Act.put, List.setIfInBounds_toArray, List.set_cons_zero, List.set_cons_succ]
                refine wpAnyH_done (by kernel_rfl) ?_ _
                go_wp2_with fail
                go_meet
                exact ⟨b18, 2, c18, [y0 - 3, y1 + 2], rfl, rfl, by omega, DF⟩
              · go_simp
                refine hK.out _ _ (by (try dsimp only); exact hHeld) (fun hHeld2 => ?_)
                clear hK K hHeld
                have hHeld := hHeld2
                clear hHeld2
                try simp only [Act.put, List.setIfInBounds_toArray, List.set_cons_zero, List.set_cons_succ]
                refine wpAnyH_ready (rs := [4, 17]) (by kernel_rfl) (by simp) ?_
                refine AllReadyH.cons (o := { dst := some 35, op := Go.Op.buildSlice 24 1 #[(0, Go.Operand.tmp 34)], type := 24, pos := "l11_fields.go:217", after := #[{ on := 3, ground := Go.Ground.data }], guard := none }) rfl (fun K hK => ?_) (AllReadyH.cons (o := { dst := some 48, op := Go.Op.call { callee := Go.Callee.builtin Go.Builtin.append, args := #[Go.Operand.tmp 39, Go.Operand.tmp 47], argTypes := #[24, 24] }, type := 24, pos := "l11_fields.go:217", after := #[{ on := 8, ground := Go.Ground.data }, { on := 16, ground := Go.Ground.data }, { on := 8, ground := Go.Ground.chain }], guard := none }) rfl (fun K hK => ?_) AllReadyH.nil)
                · go_simp
                  refine hK.out _ _ (by (try dsimp only); go_keep) (fun hHeld2 => ?_)
                  clear hK K hHeld
                  have hHeld := hHeld2
                  clear hHeld2
                  try simp only [Act.put, List.setIfInBounds_toArray, List.set_cons_zero, List.set_cons_succ]
                  have Tv36 : Hid (TR r w (v32.alloc (.cells #[.int .i64 (y0 - 3)] 2)) (.slice (some ⟨ge, 0, none⟩) ne ce) (.slice (some ⟨ga, 0, none⟩) k ca) E A) := Tv32.out.alloc (.cells #[.int .i64 (y0 - 3)] 2)
                  have R5v36 : Hid ((v32.alloc (.cells #[.int .i64 (y0 - 3)] 2)).ownsRow (r + 1) 2 1 (.slice (some ⟨b5, 0, none⟩) 0 0) 0 []) := row_alloc R5v32.out (.cells #[.int .i64 (y0 - 3)] 2)
                  have R16v36 : Hid ((v32.alloc (.cells #[.int .i64 (y0 - 3)] 2)).ownsRow (r + 1) 2 1 (.slice (some ⟨b16, 0, none⟩) 1 1) 1 [.int .i64 (y1 + 2)]) := row_alloc R16v32.out (.cells #[.int .i64 (y0 - 3)] 2)
                  have R4v36 : Hid ((v32.alloc (.cells #[.int .i64 (y0 - 3)] 2)).ownsRow (r + 1) 2 1 (.slice (some ⟨v32.heap.size, 0, none⟩) 1 1) 1 [.int .i64 (y0 - 3)]) := World.ownsRow_lit v32 #[.int .i64 (y0 - 3)] 1 (by have := Tv32.out.rd.lt; omega) (by unfold maxLen; omega) rfl
                  have lt4 : ge < v32.heap.size ∧ ga < v32.heap.size ∧ r < v32.heap.size := ⟨(Tv32.out.e.lt ge rfl).2, (Tv32.out.a.lt ga rfl).2, Tv32.out.rd.lt⟩
                  have lt4_5 : b5 < v32.heap.size := (R5v32.out.lt b5 rfl).2
                  have lt4_16 : b16 < v32.heap.size := (R16v32.out.lt b16 rfl).2
                  clear Tv32 R5v32 R16v32
                  generalize v32.alloc (.cells #[.int .i64 (y0 - 3)] 2) = v36 at hHeld Tv36 R5v36 R16v36 R4v36 ⊢
                  generalize v32.heap.size = b4 at R4v36 lt4 lt4_5 lt4_16 ⊢
                  refine wpAnyH_ready (rs := [17]) (by kernel_rfl) (by simp) ?_
                  refine AllReadyH.cons (o := { dst := some 48, op := Go.Op.call { callee := Go.Callee.builtin Go.Builtin.append, args := #[Go.Operand.tmp 39, Go.Operand.tmp 47], argTypes := #[24, 24] }, type := 24, pos := "l11_fields.go:217", after := #[{ on := 8, ground := Go.Ground.data }, { on := 16, ground := Go.Ground.data }, { on := 8, ground := Go.Ground.chain }], guard := none }) rfl (fun K hK => ?_) AllReadyH.nil
                  have lq : ge < v36.heap.size ∧ ga < v36.heap.size ∧ r < v36.heap.size := ⟨(Tv36.out.e.lt ge rfl).2, (Tv36.out.a.lt ga rfl).2, Tv36.out.rd.lt⟩
                  have lq4 : b4 < v36.heap.size := (R4v36.out.lt b4 rfl).2
                  refine step_append_lies _ (by rfl) _ _ 24 (by rfl) (r + 1) 2 i0 (.int .i64 0) 1 8 Try.underlying24 hi hz0 hz1 hz2 rfl (by decide) _ _ _ (by rfl) R5v36.out ⟨b16, 0, none⟩ 1 1 [.int .i64 (y1 + 2)] (by rfl) rfl (row_news R16v36.out) (by intro u hu; simp at hu; subst hu; rfl) (by decide) (by unfold maxLen; omega) (by omega) (by have := Tv36.out.rd.lt; omega) v36.heap.size rfl ?_
                  intro b17 c17 v37 hown hgrow hat hlt
                  replace hgrow : v36.grownBy v37 (some b5) := hgrow
                  replace hat : b5 = b17 ∨ b17 = v36.heap.size := (by rcases hat with h | h; exact .inl (by simpa [Value.ownBlock] using h); exact .inr h)
                  refine hK.out _ _ (by (try dsimp only); exact ⟨(grown_cell hgrow lq.1 (by simp; omega)).trans hHeld.1, (grown_cell hgrow lq.1 (by simp; omega)).trans hHeld.2⟩) (fun hHeld2 => ?_)
                  clear hK K hHeld
                  have hHeld := hHeld2
                  clear hHeld2
                  try simp only [Act.put, List.setIfInBounds_toArray, List.set_cons_zero, List.set_cons_succ]
                  have Tv37 : Hid (TR r w v37 (.slice (some ⟨ge, 0, none⟩) ne ce) (.slice (some ⟨ga, 0, none⟩) k ca) E A) := Tv36.out.grown hgrow (by have := R5v36.out.lt b5 rfl; omega) (by simp [Value.ownBlock]; omega) (by simp [Value.ownBlock]; omega)
                  have R17v37 : Hid (v37.ownsRow (r + 1) 2 1 (.slice (some ⟨b17, 0, none⟩) 1 c17) 1 [.int .i64 (y1 + 2)]) := hown
                  have R4v37 : Hid (v37.ownsRow (r + 1) 2 1 (.slice (some ⟨b4, 0, none⟩) 1 1) 1 [.int .i64 (y0 - 3)]) := row_grown R4v36.out hgrow (fun g h x => by simp [Value.ownBlock] at h x; omega)
                  have lt17 : ge ≠ b17 ∧ ga ≠ b17 ∧ b4 ≠ b17 := by omega
                  clear hown hgrow hat hlt Tv36 R5v36 R16v36 R4v36
                  refine wpAnyH_ready (rs := [18]) (by kernel_rfl) (by simp) ?_
                  refine AllReadyH.cons (o := { dst := some 49, op := Go.Op.call { callee := Go.Callee.builtin Go.Builtin.append, args := #[Go.Operand.tmp 35, Go.Operand.tmp 48], argTypes := #[24, 24] }, type := 24, pos := "l11_fields.go:217", after := #[{ on := 4, ground := Go.Ground.data }, { on := 17, ground := Go.Ground.data }, { on := 17, ground := Go.Ground.chain }], guard := none }) rfl (fun K hK => ?_) AllReadyH.nil
                  have lq : ge < v37.heap.size ∧ ga < v37.heap.size ∧ r < v37.heap.size := ⟨(Tv37.out.e.lt ge rfl).2, (Tv37.out.a.lt ga rfl).2, Tv37.out.rd.lt⟩
                  refine step_append_lies _ (by rfl) _ _ 24 (by rfl) (r + 1) 2 i0 (.int .i64 0) 1 8 Try.underlying24 hi hz0 hz1 hz2 rfl (by decide) _ _ _ (by rfl) R4v37.out ⟨b17, 0, none⟩ 1 c17 [.int .i64 (y1 + 2)] (by rfl) rfl (row_news R17v37.out) (by intro u hu; simp at hu; subst hu; rfl) (by decide) (by unfold maxLen; omega) (by omega) (by have := Tv37.out.rd.lt; omega) v37.heap.size rfl ?_
                  intro b18 c18 v38 hown hgrow hat hlt
                  replace hgrow : v37.grownBy v38 (some b4) := hgrow
                  replace hat : b4 = b18 ∨ b18 = v37.heap.size := (by rcases hat with h | h; exact .inl (by simpa [Value.ownBlock] using h); exact .inr h)
                  refine hK.out _ _ (by (try dsimp only); exact ⟨(grown_cell hgrow lq.1 (by simp; omega)).trans hHeld.1, (grown_cell hgrow lq.1 (by simp; omega)).trans hHeld.2⟩) (fun hHeld2 => ?_)
                  clear hK K hHeld
                  have hHeld := hHeld2
                  clear hHeld2
                  try simp only [Act.put, List.setIfInBounds_toArray, List.set_cons_zero, List.set_cons_succ]
                  have Tv38 : TR r w v38 (.slice (some ⟨ge, 0, none⟩) ne ce) (.slice (some ⟨ga, 0, none⟩) k ca) E A := Tv37.out.grown hgrow (by have := R4v37.out.lt b4 rfl; omega) (by simp [Value.ownBlock]; omega) (by simp [Value.ownBlock]; omega)
                  have DF : Hid (DR r w v38 (.slice (some ⟨ge, 0, none⟩) ne ce) (.slice (some ⟨ga, 0, none⟩) k ca) (.slice (some ⟨b18, 0, none⟩) 2 c18) E A [y0 - 3, y1 + 2]) := ⟨Tv38, hown, fun g h => by simp [Value.ownBlock] at h; subst h; simp [Value.ownBlock]; omega⟩
                  clear hown hgrow hat hlt Tv38 R4v37 R17v37 Tv37
                  refine wpAnyH_take (i := 19) (oi := { dst := some 9, op := Go.Op.assign (Go.Operand.tmp 49), type := 24, pos := "l11_fields.go:217", after := #[{ on := 18, ground := Go.Ground.data }, { on := 18, ground := Go.Ground.chain }, { on := 0, ground := Go.Ground.phase }, { on := 1, ground := Go.Ground.phase }, { on := 2, ground := Go.Ground.phase }, { on := 3, ground := Go.Ground.phase }, { on := 4, ground := Go.Ground.phase }, { on := 5, ground := Go.Ground.phase }, { on := 6, ground := Go.Ground.phase }, { on := 7, ground := Go.Ground.phase }, { on := 8, ground := Go.Ground.phase }, { on := 9, ground := Go.Ground.phase }, { on := 10, ground := Go.Ground.phase }, { on := 11, ground := Go.Ground.phase }, { on := 12, ground := Go.Ground.phase }, { on := 13, ground := Go.Ground.phase }, { on := 14, ground := Go.Ground.phase }, { on := 15, ground := Go.Ground.phase }, { on := 16, ground := Go.Ground.phase }, { on := 17, ground := Go.Ground.phase }, { on := 18, ground := Go.Ground.phase }], guard := none }) (v := ?_) rfl (by kernel_rfl) (by kernel_rfl) (by kernel_rfl) (fun _ _ _ h => h) (Or.inl ⟨by rfl, ?_⟩) (by assumption) ?_
                  rotate_left 1
                  · (intro w hSw; (try dsimp only at hSw); go_simp); all_goals (with_reducible rfl)
                  try simp only [Act.put, List.setIfInBounds_toArray, List.set_cons_zero, List.set_cons_succ]
                  refine wpAnyH_done (by kernel_rfl) ?_ _
                  go_wp2_with fail
                  go_meet
                  exact ⟨b18, 2, c18, [y0 - 3, y1 + 2], rfl, rfl, by omega, DF⟩
                · have lq : ge < v32.heap.size ∧ ga < v32.heap.size ∧ r < v32.heap.size := ⟨(Tv32.out.e.lt ge rfl).2, (Tv32.out.a.lt ga rfl).2, Tv32.out.rd.lt⟩
                  refine step_append_lies _ (by rfl) _ _ 24 (by rfl) (r + 1) 2 i0 (.int .i64 0) 1 8 Try.underlying24 hi hz0 hz1 hz2 rfl (by decide) _ _ _ (by rfl) R5v32.out ⟨b16, 0, none⟩ 1 1 [.int .i64 (y1 + 2)] (by rfl) rfl (row_news R16v32.out) (by intro u hu; simp at hu; subst hu; rfl) (by decide) (by unfold maxLen; omega) (by omega) (by have := Tv32.out.rd.lt; omega) v32.heap.size rfl ?_
                  intro b17 c17 v39 hown hgrow hat hlt
                  replace hgrow : v32.grownBy v39 (some b5) := hgrow
                  replace hat : b5 = b17 ∨ b17 = v32.heap.size := (by rcases hat with h | h; exact .inl (by simpa [Value.ownBlock] using h); exact .inr h)
                  refine hK.out _ _ (by (try dsimp only); exact ⟨(grown_cell hgrow lq.1 (by simp; omega)).trans hHeld.1, (grown_cell hgrow lq.1 (by simp; omega)).trans hHeld.2⟩) (fun hHeld2 => ?_)
                  clear hK K hHeld
                  have hHeld := hHeld2
                  clear hHeld2
                  try simp only [Act.put, List.setIfInBounds_toArray, List.set_cons_zero, List.set_cons_succ]
                  have Tv39 : Hid (TR r w v39 (.slice (some ⟨ge, 0, none⟩) ne ce) (.slice (some ⟨ga, 0, none⟩) k ca) E A) := Tv32.out.grown hgrow (by have := R5v32.out.lt b5 rfl; omega) (by simp [Value.ownBlock]; omega) (by simp [Value.ownBlock]; omega)
                  have R17v39 : Hid (v39.ownsRow (r + 1) 2 1 (.slice (some ⟨b17, 0, none⟩) 1 c17) 1 [.int .i64 (y1 + 2)]) := hown
                  have lt17 : ge ≠ b17 ∧ ga ≠ b17 := by omega
                  clear hown hgrow hat hlt Tv32 R5v32 R16v32
                  refine wpAnyH_ready (rs := [4]) (by kernel_rfl) (by simp) ?_
                  refine AllReadyH.cons (o := { dst := some 35, op := Go.Op.buildSlice 24 1 #[(0, Go.Operand.tmp 34)], type := 24, pos := "l11_fields.go:217", after := #[{ on := 3, ground := Go.Ground.data }], guard := none }) rfl (fun K hK => ?_) AllReadyH.nil
                  go_simp
                  refine hK.out _ _ (by (try dsimp only); go_keep) (fun hHeld2 => ?_)
                  clear hK K hHeld
                  have hHeld := hHeld2
                  clear hHeld2
                  try simp only [Act.put, List.setIfInBounds_toArray, List.set_cons_zero, List.set_cons_succ]
                  have Tv40 : Hid (TR r w (v39.alloc (.cells #[.int .i64 (y0 - 3)] 2)) (.slice (some ⟨ge, 0, none⟩) ne ce) (.slice (some ⟨ga, 0, none⟩) k ca) E A) := Tv39.out.alloc (.cells #[.int .i64 (y0 - 3)] 2)
                  have R17v40 : Hid ((v39.alloc (.cells #[.int .i64 (y0 - 3)] 2)).ownsRow (r + 1) 2 1 (.slice (some ⟨b17, 0, none⟩) 1 c17) 1 [.int .i64 (y1 + 2)]) := row_alloc R17v39.out (.cells #[.int .i64 (y0 - 3)] 2)
                  have R4v40 : Hid ((v39.alloc (.cells #[.int .i64 (y0 - 3)] 2)).ownsRow (r + 1) 2 1 (.slice (some ⟨v39.heap.size, 0, none⟩) 1 1) 1 [.int .i64 (y0 - 3)]) := World.ownsRow_lit v39 #[.int .i64 (y0 - 3)] 1 (by have := Tv39.out.rd.lt; omega) (by unfold maxLen; omega) rfl
                  have lt4 : ge < v39.heap.size ∧ ga < v39.heap.size ∧ r < v39.heap.size := ⟨(Tv39.out.e.lt ge rfl).2, (Tv39.out.a.lt ga rfl).2, Tv39.out.rd.lt⟩
                  have lt4_17 : b17 < v39.heap.size := (R17v39.out.lt b17 rfl).2
                  clear Tv39 R17v39
                  generalize v39.alloc (.cells #[.int .i64 (y0 - 3)] 2) = v40 at hHeld Tv40 R17v40 R4v40 ⊢
                  generalize v39.heap.size = b4 at R4v40 lt4 lt4_17 ⊢
                  refine wpAnyH_ready (rs := [18]) (by kernel_rfl) (by simp) ?_
                  refine AllReadyH.cons (o := { dst := some 49, op := Go.Op.call { callee := Go.Callee.builtin Go.Builtin.append, args := #[Go.Operand.tmp 35, Go.Operand.tmp 48], argTypes := #[24, 24] }, type := 24, pos := "l11_fields.go:217", after := #[{ on := 4, ground := Go.Ground.data }, { on := 17, ground := Go.Ground.data }, { on := 17, ground := Go.Ground.chain }], guard := none }) rfl (fun K hK => ?_) AllReadyH.nil
                  have lq : ge < v40.heap.size ∧ ga < v40.heap.size ∧ r < v40.heap.size := ⟨(Tv40.out.e.lt ge rfl).2, (Tv40.out.a.lt ga rfl).2, Tv40.out.rd.lt⟩
                  refine step_append_lies _ (by rfl) _ _ 24 (by rfl) (r + 1) 2 i0 (.int .i64 0) 1 8 Try.underlying24 hi hz0 hz1 hz2 rfl (by decide) _ _ _ (by rfl) R4v40.out ⟨b17, 0, none⟩ 1 c17 [.int .i64 (y1 + 2)] (by rfl) rfl (row_news R17v40.out) (by intro u hu; simp at hu; subst hu; rfl) (by decide) (by unfold maxLen; omega) (by omega) (by have := Tv40.out.rd.lt; omega) v40.heap.size rfl ?_
                  intro b18 c18 v41 hown hgrow hat hlt
                  replace hgrow : v40.grownBy v41 (some b4) := hgrow
                  replace hat : b4 = b18 ∨ b18 = v40.heap.size := (by rcases hat with h | h; exact .inl (by simpa [Value.ownBlock] using h); exact .inr h)
                  refine hK.out _ _ (by (try dsimp only); exact ⟨(grown_cell hgrow lq.1 (by simp; omega)).trans hHeld.1, (grown_cell hgrow lq.1 (by simp; omega)).trans hHeld.2⟩) (fun hHeld2 => ?_)
                  clear hK K hHeld
                  have hHeld := hHeld2
                  clear hHeld2
                  try simp only [Act.put, List.setIfInBounds_toArray, List.set_cons_zero, List.set_cons_succ]
                  have Tv41 : TR r w v41 (.slice (some ⟨ge, 0, none⟩) ne ce) (.slice (some ⟨ga, 0, none⟩) k ca) E A := Tv40.out.grown hgrow (by have := R4v40.out.lt b4 rfl; omega) (by simp [Value.ownBlock]; omega) (by simp [Value.ownBlock]; omega)
                  have DF : Hid (DR r w v41 (.slice (some ⟨ge, 0, none⟩) ne ce) (.slice (some ⟨ga, 0, none⟩) k ca) (.slice (some ⟨b18, 0, none⟩) 2 c18) E A [y0 - 3, y1 + 2]) := ⟨Tv41, hown, fun g h => by simp [Value.ownBlock] at h; subst h; simp [Value.ownBlock]; omega⟩
                  clear hown hgrow hat hlt Tv41 R4v40 R17v40 Tv40
                  refine wpAnyH_take (i := 19) (oi := { dst := some 9, op := Go.Op.assign (Go.Operand.tmp 49), type := 24, pos := "l11_fields.go:217", after := #[{ on := 18, ground := Go.Ground.data }, { on := 18, ground := Go.Ground.chain }, { on := 0, ground := Go.Ground.phase }, { on := 1, ground := Go.Ground.phase }, { on := 2, ground := Go.Ground.phase }, { on := 3, ground := Go.Ground.phase }, { on := 4, ground := Go.Ground.phase }, { on := 5, ground := Go.Ground.phase }, { on := 6, ground := Go.Ground.phase }, { on := 7, ground := Go.Ground.phase }, { on := 8, ground := Go.Ground.phase }, { on := 9, ground := Go.Ground.phase }, { on := 10, ground := Go.Ground.phase }, { on := 11, ground := Go.Ground.phase }, { on := 12, ground := Go.Ground.phase }, { on := 13, ground := Go.Ground.phase }, { on := 14, ground := Go.Ground.phase }, { on := 15, ground := Go.Ground.phase }, { on := 16, ground := Go.Ground.phase }, { on := 17, ground := Go.Ground.phase }, { on := 18, ground := Go.Ground.phase }], guard := none }) (v := ?_) rfl (by kernel_rfl) (by kernel_rfl) (by kernel_rfl) (fun _ _ _ h => h) (Or.inl ⟨by rfl, ?_⟩) (by assumption) ?_
                  rotate_left 1
                  · (intro w hSw; (try dsimp only at hSw); go_simp); all_goals (with_reducible rfl)
                  try simp only [Act.put, List.setIfInBounds_toArray, List.set_cons_zero, List.set_cons_succ]
                  refine wpAnyH_done (by kernel_rfl) ?_ _
                  go_wp2_with fail
                  go_meet
                  exact ⟨b18, 2, c18, [y0 - 3, y1 + 2], rfl, rfl, by omega, DF⟩
          · go_simp
            refine hK.out _ _ (by (try dsimp only); go_keep) (fun hHeld2 => ?_)
            clear hK K hHeld
            have hHeld := hHeld2
            clear hHeld2
            try simp only [Act.put, List.setIfInBounds_toArray, List.set_cons_zero, List.set_cons_succ]
            have Tv42 : Hid (TR r w (vz.alloc (.cells #[.int .i64 (y1 + 2)] 2)) (.slice (some ⟨ge, 0, none⟩) ne ce) (.slice (some ⟨ga, 0, none⟩) k ca) E A) := Tvz.out.alloc (.cells #[.int .i64 (y1 + 2)] 2)
            have R16v42 : Hid ((vz.alloc (.cells #[.int .i64 (y1 + 2)] 2)).ownsRow (r + 1) 2 1 (.slice (some ⟨vz.heap.size, 0, none⟩) 1 1) 1 [.int .i64 (y1 + 2)]) := World.ownsRow_lit vz #[.int .i64 (y1 + 2)] 1 (by have := Tvz.out.rd.lt; omega) (by unfold maxLen; omega) rfl
            have lt16 : ge < vz.heap.size ∧ ga < vz.heap.size ∧ r < vz.heap.size := ⟨(Tvz.out.e.lt ge rfl).2, (Tvz.out.a.lt ga rfl).2, Tvz.out.rd.lt⟩
            clear Tvz 
            generalize vz.alloc (.cells #[.int .i64 (y1 + 2)] 2) = v42 at hHeld Tv42 R16v42 ⊢
            generalize vz.heap.size = b16 at R16v42 lt16 ⊢
            refine wpAnyH_ready (rs := [4, 5]) (by kernel_rfl) (by simp) ?_
            refine AllReadyH.cons (o := { dst := some 35, op := Go.Op.buildSlice 24 1 #[(0, Go.Operand.tmp 34)], type := 24, pos := "l11_fields.go:217", after := #[{ on := 3, ground := Go.Ground.data }], guard := none }) rfl (fun K hK => ?_) (AllReadyH.cons (o := { dst := some 36, op := Go.Op.buildSlice 24 0 #[], type := 24, pos := "l11_fields.go:217", after := #[], guard := none }) rfl (fun K hK => ?_) AllReadyH.nil)
            · go_simp
              refine hK.out _ _ (by (try dsimp only); go_keep) (fun hHeld2 => ?_)
              clear hK K hHeld
              have hHeld := hHeld2
              clear hHeld2
              try simp only [Act.put, List.setIfInBounds_toArray, List.set_cons_zero, List.set_cons_succ]
              have Tv43 : Hid (TR r w (v42.alloc (.cells #[.int .i64 (y0 - 3)] 2)) (.slice (some ⟨ge, 0, none⟩) ne ce) (.slice (some ⟨ga, 0, none⟩) k ca) E A) := Tv42.out.alloc (.cells #[.int .i64 (y0 - 3)] 2)
              have R16v43 : Hid ((v42.alloc (.cells #[.int .i64 (y0 - 3)] 2)).ownsRow (r + 1) 2 1 (.slice (some ⟨b16, 0, none⟩) 1 1) 1 [.int .i64 (y1 + 2)]) := row_alloc R16v42.out (.cells #[.int .i64 (y0 - 3)] 2)
              have R4v43 : Hid ((v42.alloc (.cells #[.int .i64 (y0 - 3)] 2)).ownsRow (r + 1) 2 1 (.slice (some ⟨v42.heap.size, 0, none⟩) 1 1) 1 [.int .i64 (y0 - 3)]) := World.ownsRow_lit v42 #[.int .i64 (y0 - 3)] 1 (by have := Tv42.out.rd.lt; omega) (by unfold maxLen; omega) rfl
              have lt4 : ge < v42.heap.size ∧ ga < v42.heap.size ∧ r < v42.heap.size := ⟨(Tv42.out.e.lt ge rfl).2, (Tv42.out.a.lt ga rfl).2, Tv42.out.rd.lt⟩
              have lt4_16 : b16 < v42.heap.size := (R16v42.out.lt b16 rfl).2
              clear Tv42 R16v42
              generalize v42.alloc (.cells #[.int .i64 (y0 - 3)] 2) = v43 at hHeld Tv43 R16v43 R4v43 ⊢
              generalize v42.heap.size = b4 at R4v43 lt4 lt4_16 ⊢
              refine wpAnyH_ready (rs := [5]) (by kernel_rfl) (by simp) ?_
              refine AllReadyH.cons (o := { dst := some 36, op := Go.Op.buildSlice 24 0 #[], type := 24, pos := "l11_fields.go:217", after := #[], guard := none }) rfl (fun K hK => ?_) AllReadyH.nil
              go_simp
              refine hK.out _ _ (by (try dsimp only); go_keep) (fun hHeld2 => ?_)
              clear hK K hHeld
              have hHeld := hHeld2
              clear hHeld2
              try simp only [Act.put, List.setIfInBounds_toArray, List.set_cons_zero, List.set_cons_succ]
              have Tv44 : Hid (TR r w (v43.alloc (.cells #[] 2)) (.slice (some ⟨ge, 0, none⟩) ne ce) (.slice (some ⟨ga, 0, none⟩) k ca) E A) := Tv43.out.alloc (.cells #[] 2)
              have R16v44 : Hid ((v43.alloc (.cells #[] 2)).ownsRow (r + 1) 2 1 (.slice (some ⟨b16, 0, none⟩) 1 1) 1 [.int .i64 (y1 + 2)]) := row_alloc R16v43.out (.cells #[] 2)
              have R4v44 : Hid ((v43.alloc (.cells #[] 2)).ownsRow (r + 1) 2 1 (.slice (some ⟨b4, 0, none⟩) 1 1) 1 [.int .i64 (y0 - 3)]) := row_alloc R4v43.out (.cells #[] 2)
              have R5v44 : Hid ((v43.alloc (.cells #[] 2)).ownsRow (r + 1) 2 1 (.slice (some ⟨v43.heap.size, 0, none⟩) 0 0) 0 []) := World.ownsRow_lit v43 #[] 0 (by have := Tv43.out.rd.lt; omega) (by unfold maxLen; omega) rfl
              have lt5 : ge < v43.heap.size ∧ ga < v43.heap.size ∧ r < v43.heap.size := ⟨(Tv43.out.e.lt ge rfl).2, (Tv43.out.a.lt ga rfl).2, Tv43.out.rd.lt⟩
              have lt5_16 : b16 < v43.heap.size := (R16v43.out.lt b16 rfl).2
              have lt5_4 : b4 < v43.heap.size := (R4v43.out.lt b4 rfl).2
              clear Tv43 R16v43 R4v43
              generalize v43.alloc (.cells #[] 2) = v44 at hHeld Tv44 R16v44 R4v44 R5v44 ⊢
              generalize v43.heap.size = b5 at R5v44 lt5 lt5_16 lt5_4 ⊢
              refine wpAnyH_ready (rs := [8]) (by kernel_rfl) (by simp) ?_
              refine AllReadyH.cons (o := { dst := some 39, op := Go.Op.call { callee := Go.Callee.builtin Go.Builtin.append, args := #[Go.Operand.tmp 36, Go.Operand.tmp 38], argTypes := #[24, 24] }, type := 24, pos := "l11_fields.go:217", after := #[{ on := 5, ground := Go.Ground.data }, { on := 7, ground := Go.Ground.data }], guard := none }) rfl (fun K hK => ?_) AllReadyH.nil
              go_simp
              refine hK.out _ _ (by (try dsimp only); exact hHeld) (fun hHeld2 => ?_)
              clear hK K hHeld
              have hHeld := hHeld2
              clear hHeld2
              try simp only [Act.put, List.setIfInBounds_toArray, List.set_cons_zero, List.set_cons_succ]
              refine wpAnyH_ready (rs := [17]) (by kernel_rfl) (by simp) ?_
              refine AllReadyH.cons (o := { dst := some 48, op := Go.Op.call { callee := Go.Callee.builtin Go.Builtin.append, args := #[Go.Operand.tmp 39, Go.Operand.tmp 47], argTypes := #[24, 24] }, type := 24, pos := "l11_fields.go:217", after := #[{ on := 8, ground := Go.Ground.data }, { on := 16, ground := Go.Ground.data }, { on := 8, ground := Go.Ground.chain }], guard := none }) rfl (fun K hK => ?_) AllReadyH.nil
              have lq : ge < v44.heap.size ∧ ga < v44.heap.size ∧ r < v44.heap.size := ⟨(Tv44.out.e.lt ge rfl).2, (Tv44.out.a.lt ga rfl).2, Tv44.out.rd.lt⟩
              have lq4 : b4 < v44.heap.size := (R4v44.out.lt b4 rfl).2
              refine step_append_lies _ (by rfl) _ _ 24 (by rfl) (r + 1) 2 i0 (.int .i64 0) 1 8 Try.underlying24 hi hz0 hz1 hz2 rfl (by decide) _ _ _ (by rfl) R5v44.out ⟨b16, 0, none⟩ 1 1 [.int .i64 (y1 + 2)] (by rfl) rfl (row_news R16v44.out) (by intro u hu; simp at hu; subst hu; rfl) (by decide) (by unfold maxLen; omega) (by omega) (by have := Tv44.out.rd.lt; omega) v44.heap.size rfl ?_
              intro b17 c17 v45 hown hgrow hat hlt
              replace hgrow : v44.grownBy v45 (some b5) := hgrow
              replace hat : b5 = b17 ∨ b17 = v44.heap.size := (by rcases hat with h | h; exact .inl (by simpa [Value.ownBlock] using h); exact .inr h)
              refine hK.out _ _ (by (try dsimp only); exact ⟨(grown_cell hgrow lq.1 (by simp; omega)).trans hHeld.1, (grown_cell hgrow lq.1 (by simp; omega)).trans hHeld.2⟩) (fun hHeld2 => ?_)
              clear hK K hHeld
              have hHeld := hHeld2
              clear hHeld2
              try simp only [Act.put, List.setIfInBounds_toArray, List.set_cons_zero, List.set_cons_succ]
              have Tv45 : Hid (TR r w v45 (.slice (some ⟨ge, 0, none⟩) ne ce) (.slice (some ⟨ga, 0, none⟩) k ca) E A) := Tv44.out.grown hgrow (by have := R5v44.out.lt b5 rfl; omega) (by simp [Value.ownBlock]; omega) (by simp [Value.ownBlock]; omega)
              have R17v45 : Hid (v45.ownsRow (r + 1) 2 1 (.slice (some ⟨b17, 0, none⟩) 1 c17) 1 [.int .i64 (y1 + 2)]) := hown
              have R4v45 : Hid (v45.ownsRow (r + 1) 2 1 (.slice (some ⟨b4, 0, none⟩) 1 1) 1 [.int .i64 (y0 - 3)]) := row_grown R4v44.out hgrow (fun g h x => by simp [Value.ownBlock] at h x; omega)
              have lt17 : ge ≠ b17 ∧ ga ≠ b17 ∧ b4 ≠ b17 := by omega
              clear hown hgrow hat hlt Tv44 R16v44 R4v44 R5v44
              refine wpAnyH_ready (rs := [18]) (by kernel_rfl) (by simp) ?_
              refine AllReadyH.cons (o := { dst := some 49, op := Go.Op.call { callee := Go.Callee.builtin Go.Builtin.append, args := #[Go.Operand.tmp 35, Go.Operand.tmp 48], argTypes := #[24, 24] }, type := 24, pos := "l11_fields.go:217", after := #[{ on := 4, ground := Go.Ground.data }, { on := 17, ground := Go.Ground.data }, { on := 17, ground := Go.Ground.chain }], guard := none }) rfl (fun K hK => ?_) AllReadyH.nil
              have lq : ge < v45.heap.size ∧ ga < v45.heap.size ∧ r < v45.heap.size := ⟨(Tv45.out.e.lt ge rfl).2, (Tv45.out.a.lt ga rfl).2, Tv45.out.rd.lt⟩
              refine step_append_lies _ (by rfl) _ _ 24 (by rfl) (r + 1) 2 i0 (.int .i64 0) 1 8 Try.underlying24 hi hz0 hz1 hz2 rfl (by decide) _ _ _ (by rfl) R4v45.out ⟨b17, 0, none⟩ 1 c17 [.int .i64 (y1 + 2)] (by rfl) rfl (row_news R17v45.out) (by intro u hu; simp at hu; subst hu; rfl) (by decide) (by unfold maxLen; omega) (by omega) (by have := Tv45.out.rd.lt; omega) v45.heap.size rfl ?_
              intro b18 c18 v46 hown hgrow hat hlt
              replace hgrow : v45.grownBy v46 (some b4) := hgrow
              replace hat : b4 = b18 ∨ b18 = v45.heap.size := (by rcases hat with h | h; exact .inl (by simpa [Value.ownBlock] using h); exact .inr h)
              refine hK.out _ _ (by (try dsimp only); exact ⟨(grown_cell hgrow lq.1 (by simp; omega)).trans hHeld.1, (grown_cell hgrow lq.1 (by simp; omega)).trans hHeld.2⟩) (fun hHeld2 => ?_)
              clear hK K hHeld
              have hHeld := hHeld2
              clear hHeld2
              try simp only [Act.put, List.setIfInBounds_toArray, List.set_cons_zero, List.set_cons_succ]
              have Tv46 : TR r w v46 (.slice (some ⟨ge, 0, none⟩) ne ce) (.slice (some ⟨ga, 0, none⟩) k ca) E A := Tv45.out.grown hgrow (by have := R4v45.out.lt b4 rfl; omega) (by simp [Value.ownBlock]; omega) (by simp [Value.ownBlock]; omega)
              have DF : Hid (DR r w v46 (.slice (some ⟨ge, 0, none⟩) ne ce) (.slice (some ⟨ga, 0, none⟩) k ca) (.slice (some ⟨b18, 0, none⟩) 2 c18) E A [y0 - 3, y1 + 2]) := ⟨Tv46, hown, fun g h => by simp [Value.ownBlock] at h; subst h; simp [Value.ownBlock]; omega⟩
              clear hown hgrow hat hlt Tv46 R4v45 R17v45 Tv45
              refine wpAnyH_take (i := 19) (oi := { dst := some 9, op := Go.Op.assign (Go.Operand.tmp 49), type := 24, pos := "l11_fields.go:217", after := #[{ on := 18, ground := Go.Ground.data }, { on := 18, ground := Go.Ground.chain }, { on := 0, ground := Go.Ground.phase }, { on := 1, ground := Go.Ground.phase }, { on := 2, ground := Go.Ground.phase }, { on := 3, ground := Go.Ground.phase }, { on := 4, ground := Go.Ground.phase }, { on := 5, ground := Go.Ground.phase }, { on := 6, ground := Go.Ground.phase }, { on := 7, ground := Go.Ground.phase }, { on := 8, ground := Go.Ground.phase }, { on := 9, ground := Go.Ground.phase }, { on := 10, ground := Go.Ground.phase }, { on := 11, ground := Go.Ground.phase }, { on := 12, ground := Go.Ground.phase }, { on := 13, ground := Go.Ground.phase }, { on := 14, ground := Go.Ground.phase }, { on := 15, ground := Go.Ground.phase }, { on := 16, ground := Go.Ground.phase }, { on := 17, ground := Go.Ground.phase }, { on := 18, ground := Go.Ground.phase }], guard := none }) (v := ?_) rfl (by kernel_rfl) (by kernel_rfl) (by kernel_rfl) (fun _ _ _ h => h) (Or.inl ⟨by rfl, ?_⟩) (by assumption) ?_
              rotate_left 1
              · (intro w hSw; (try dsimp only at hSw); go_simp); all_goals (with_reducible rfl)
              try simp only [Act.put, List.setIfInBounds_toArray, List.set_cons_zero, List.set_cons_succ]
              refine wpAnyH_done (by kernel_rfl) ?_ _
              go_wp2_with fail
              go_meet
              exact ⟨b18, 2, c18, [y0 - 3, y1 + 2], rfl, rfl, by omega, DF⟩
            · go_simp
              refine hK.out _ _ (by (try dsimp only); go_keep) (fun hHeld2 => ?_)
              clear hK K hHeld
              have hHeld := hHeld2
              clear hHeld2
              try simp only [Act.put, List.setIfInBounds_toArray, List.set_cons_zero, List.set_cons_succ]
              have Tv47 : Hid (TR r w (v42.alloc (.cells #[] 2)) (.slice (some ⟨ge, 0, none⟩) ne ce) (.slice (some ⟨ga, 0, none⟩) k ca) E A) := Tv42.out.alloc (.cells #[] 2)
              have R16v47 : Hid ((v42.alloc (.cells #[] 2)).ownsRow (r + 1) 2 1 (.slice (some ⟨b16, 0, none⟩) 1 1) 1 [.int .i64 (y1 + 2)]) := row_alloc R16v42.out (.cells #[] 2)
              have R5v47 : Hid ((v42.alloc (.cells #[] 2)).ownsRow (r + 1) 2 1 (.slice (some ⟨v42.heap.size, 0, none⟩) 0 0) 0 []) := World.ownsRow_lit v42 #[] 0 (by have := Tv42.out.rd.lt; omega) (by unfold maxLen; omega) rfl
              have lt5 : ge < v42.heap.size ∧ ga < v42.heap.size ∧ r < v42.heap.size := ⟨(Tv42.out.e.lt ge rfl).2, (Tv42.out.a.lt ga rfl).2, Tv42.out.rd.lt⟩
              have lt5_16 : b16 < v42.heap.size := (R16v42.out.lt b16 rfl).2
              clear Tv42 R16v42
              generalize v42.alloc (.cells #[] 2) = v47 at hHeld Tv47 R16v47 R5v47 ⊢
              generalize v42.heap.size = b5 at R5v47 lt5 lt5_16 ⊢
              refine wpAnyH_ready (rs := [4, 8]) (by kernel_rfl) (by simp) ?_
              refine AllReadyH.cons (o := { dst := some 35, op := Go.Op.buildSlice 24 1 #[(0, Go.Operand.tmp 34)], type := 24, pos := "l11_fields.go:217", after := #[{ on := 3, ground := Go.Ground.data }], guard := none }) rfl (fun K hK => ?_) (AllReadyH.cons (o := { dst := some 39, op := Go.Op.call { callee := Go.Callee.builtin Go.Builtin.append, args := #[Go.Operand.tmp 36, Go.Operand.tmp 38], argTypes := #[24, 24] }, type := 24, pos := "l11_fields.go:217", after := #[{ on := 5, ground := Go.Ground.data }, { on := 7, ground := Go.Ground.data }], guard := none }) rfl (fun K hK => ?_) AllReadyH.nil)
              · go_simp
                refine hK.out _ _ (by (try dsimp only); go_keep) (fun hHeld2 => ?_)
                clear hK K hHeld
                have hHeld := hHeld2
                clear hHeld2
                try simp only [Act.put, List.setIfInBounds_toArray, List.set_cons_zero, List.set_cons_succ]
                have Tv48 : Hid (TR r w (v47.alloc (.cells #[.int .i64 (y0 - 3)] 2)) (.slice (some ⟨ge, 0, none⟩) ne ce) (.slice (some ⟨ga, 0, none⟩) k ca) E A) := Tv47.out.alloc (.cells #[.int .i64 (y0 - 3)] 2)
                have R16v48 : Hid ((v47.alloc (.cells #[.int .i64 (y0 - 3)] 2)).ownsRow (r + 1) 2 1 (.slice (some ⟨b16, 0, none⟩) 1 1) 1 [.int .i64 (y1 + 2)]) := row_alloc R16v47.out (.cells #[.int .i64 (y0 - 3)] 2)
                have R5v48 : Hid ((v47.alloc (.cells #[.int .i64 (y0 - 3)] 2)).ownsRow (r + 1) 2 1 (.slice (some ⟨b5, 0, none⟩) 0 0) 0 []) := row_alloc R5v47.out (.cells #[.int .i64 (y0 - 3)] 2)
                have R4v48 : Hid ((v47.alloc (.cells #[.int .i64 (y0 - 3)] 2)).ownsRow (r + 1) 2 1 (.slice (some ⟨v47.heap.size, 0, none⟩) 1 1) 1 [.int .i64 (y0 - 3)]) := World.ownsRow_lit v47 #[.int .i64 (y0 - 3)] 1 (by have := Tv47.out.rd.lt; omega) (by unfold maxLen; omega) rfl
                have lt4 : ge < v47.heap.size ∧ ga < v47.heap.size ∧ r < v47.heap.size := ⟨(Tv47.out.e.lt ge rfl).2, (Tv47.out.a.lt ga rfl).2, Tv47.out.rd.lt⟩
                have lt4_16 : b16 < v47.heap.size := (R16v47.out.lt b16 rfl).2
                have lt4_5 : b5 < v47.heap.size := (R5v47.out.lt b5 rfl).2
                clear Tv47 R16v47 R5v47
                generalize v47.alloc (.cells #[.int .i64 (y0 - 3)] 2) = v48 at hHeld Tv48 R16v48 R5v48 R4v48 ⊢
                generalize v47.heap.size = b4 at R4v48 lt4 lt4_16 lt4_5 ⊢
                refine wpAnyH_ready (rs := [8]) (by kernel_rfl) (by simp) ?_
                refine AllReadyH.cons (o := { dst := some 39, op := Go.Op.call { callee := Go.Callee.builtin Go.Builtin.append, args := #[Go.Operand.tmp 36, Go.Operand.tmp 38], argTypes := #[24, 24] }, type := 24, pos := "l11_fields.go:217", after := #[{ on := 5, ground := Go.Ground.data }, { on := 7, ground := Go.Ground.data }], guard := none }) rfl (fun K hK => ?_) AllReadyH.nil
                go_simp
                refine hK.out _ _ (by (try dsimp only); exact hHeld) (fun hHeld2 => ?_)
                clear hK K hHeld
                have hHeld := hHeld2
                clear hHeld2
                try simp only [Act.put, List.setIfInBounds_toArray, List.set_cons_zero, List.set_cons_succ]
                refine wpAnyH_ready (rs := [17]) (by kernel_rfl) (by simp) ?_
                refine AllReadyH.cons (o := { dst := some 48, op := Go.Op.call { callee := Go.Callee.builtin Go.Builtin.append, args := #[Go.Operand.tmp 39, Go.Operand.tmp 47], argTypes := #[24, 24] }, type := 24, pos := "l11_fields.go:217", after := #[{ on := 8, ground := Go.Ground.data }, { on := 16, ground := Go.Ground.data }, { on := 8, ground := Go.Ground.chain }], guard := none }) rfl (fun K hK => ?_) AllReadyH.nil
                have lq : ge < v48.heap.size ∧ ga < v48.heap.size ∧ r < v48.heap.size := ⟨(Tv48.out.e.lt ge rfl).2, (Tv48.out.a.lt ga rfl).2, Tv48.out.rd.lt⟩
                have lq4 : b4 < v48.heap.size := (R4v48.out.lt b4 rfl).2
                refine step_append_lies _ (by rfl) _ _ 24 (by rfl) (r + 1) 2 i0 (.int .i64 0) 1 8 Try.underlying24 hi hz0 hz1 hz2 rfl (by decide) _ _ _ (by rfl) R5v48.out ⟨b16, 0, none⟩ 1 1 [.int .i64 (y1 + 2)] (by rfl) rfl (row_news R16v48.out) (by intro u hu; simp at hu; subst hu; rfl) (by decide) (by unfold maxLen; omega) (by omega) (by have := Tv48.out.rd.lt; omega) v48.heap.size rfl ?_
                intro b17 c17 v49 hown hgrow hat hlt
                replace hgrow : v48.grownBy v49 (some b5) := hgrow
                replace hat : b5 = b17 ∨ b17 = v48.heap.size := (by rcases hat with h | h; exact .inl (by simpa [Value.ownBlock] using h); exact .inr h)
                refine hK.out _ _ (by (try dsimp only); exact ⟨(grown_cell hgrow lq.1 (by simp; omega)).trans hHeld.1, (grown_cell hgrow lq.1 (by simp; omega)).trans hHeld.2⟩) (fun hHeld2 => ?_)
                clear hK K hHeld
                have hHeld := hHeld2
                clear hHeld2
                try simp only [Act.put, List.setIfInBounds_toArray, List.set_cons_zero, List.set_cons_succ]
                have Tv49 : Hid (TR r w v49 (.slice (some ⟨ge, 0, none⟩) ne ce) (.slice (some ⟨ga, 0, none⟩) k ca) E A) := Tv48.out.grown hgrow (by have := R5v48.out.lt b5 rfl; omega) (by simp [Value.ownBlock]; omega) (by simp [Value.ownBlock]; omega)
                have R17v49 : Hid (v49.ownsRow (r + 1) 2 1 (.slice (some ⟨b17, 0, none⟩) 1 c17) 1 [.int .i64 (y1 + 2)]) := hown
                have R4v49 : Hid (v49.ownsRow (r + 1) 2 1 (.slice (some ⟨b4, 0, none⟩) 1 1) 1 [.int .i64 (y0 - 3)]) := row_grown R4v48.out hgrow (fun g h x => by simp [Value.ownBlock] at h x; omega)
                have lt17 : ge ≠ b17 ∧ ga ≠ b17 ∧ b4 ≠ b17 := by omega
                clear hown hgrow hat hlt Tv48 R16v48 R5v48 R4v48
                refine wpAnyH_ready (rs := [18]) (by kernel_rfl) (by simp) ?_
                refine AllReadyH.cons (o := { dst := some 49, op := Go.Op.call { callee := Go.Callee.builtin Go.Builtin.append, args := #[Go.Operand.tmp 35, Go.Operand.tmp 48], argTypes := #[24, 24] }, type := 24, pos := "l11_fields.go:217", after := #[{ on := 4, ground := Go.Ground.data }, { on := 17, ground := Go.Ground.data }, { on := 17, ground := Go.Ground.chain }], guard := none }) rfl (fun K hK => ?_) AllReadyH.nil
                have lq : ge < v49.heap.size ∧ ga < v49.heap.size ∧ r < v49.heap.size := ⟨(Tv49.out.e.lt ge rfl).2, (Tv49.out.a.lt ga rfl).2, Tv49.out.rd.lt⟩
                refine step_append_lies _ (by rfl) _ _ 24 (by rfl) (r + 1) 2 i0 (.int .i64 0) 1 8 Try.underlying24 hi hz0 hz1 hz2 rfl (by decide) _ _ _ (by rfl) R4v49.out ⟨b17, 0, none⟩ 1 c17 [.int .i64 (y1 + 2)] (by rfl) rfl (row_news R17v49.out) (by intro u hu; simp at hu; subst hu; rfl) (by decide) (by unfold maxLen; omega) (by omega) (by have := Tv49.out.rd.lt; omega) v49.heap.size rfl ?_
                intro b18 c18 v50 hown hgrow hat hlt
                replace hgrow : v49.grownBy v50 (some b4) := hgrow
                replace hat : b4 = b18 ∨ b18 = v49.heap.size := (by rcases hat with h | h; exact .inl (by simpa [Value.ownBlock] using h); exact .inr h)
                refine hK.out _ _ (by (try dsimp only); exact ⟨(grown_cell hgrow lq.1 (by simp; omega)).trans hHeld.1, (grown_cell hgrow lq.1 (by simp; omega)).trans hHeld.2⟩) (fun hHeld2 => ?_)
                clear hK K hHeld
                have hHeld := hHeld2
                clear hHeld2
                try simp only [Act.put, List.setIfInBounds_toArray, List.set_cons_zero, List.set_cons_succ]
                have Tv50 : TR r w v50 (.slice (some ⟨ge, 0, none⟩) ne ce) (.slice (some ⟨ga, 0, none⟩) k ca) E A := Tv49.out.grown hgrow (by have := R4v49.out.lt b4 rfl; omega) (by simp [Value.ownBlock]; omega) (by simp [Value.ownBlock]; omega)
                have DF : Hid (DR r w v50 (.slice (some ⟨ge, 0, none⟩) ne ce) (.slice (some ⟨ga, 0, none⟩) k ca) (.slice (some ⟨b18, 0, none⟩) 2 c18) E A [y0 - 3, y1 + 2]) := ⟨Tv50, hown, fun g h => by simp [Value.ownBlock] at h; subst h; simp [Value.ownBlock]; omega⟩
                clear hown hgrow hat hlt Tv50 R4v49 R17v49 Tv49
                refine wpAnyH_take (i := 19) (oi := { dst := some 9, op := Go.Op.assign (Go.Operand.tmp 49), type := 24, pos := "l11_fields.go:217", after := #[{ on := 18, ground := Go.Ground.data }, { on := 18, ground := Go.Ground.chain }, { on := 0, ground := Go.Ground.phase }, { on := 1, ground := Go.Ground.phase }, { on := 2, ground := Go.Ground.phase }, { on := 3, ground := Go.Ground.phase }, { on := 4, ground := Go.Ground.phase }, { on := 5, ground := Go.Ground.phase }, { on := 6, ground := Go.Ground.phase }, { on := 7, ground := Go.Ground.phase }, { on := 8, ground := Go.Ground.phase }, { on := 9, ground := Go.Ground.phase }, { on := 10, ground := Go.Ground.phase }, { on := 11, ground := Go.Ground.phase }, { on := 12, ground := Go.Ground.phase }, { on := 13, ground := Go.Ground.phase }, { on := 14, ground := Go.Ground.phase }, { on := 15, ground := Go.Ground.phase }, { on := 16, ground := Go.Ground.phase }, { on := 17, ground := Go.Ground.phase }, { on := 18, ground := Go.Ground.phase }], guard := none }) (v := ?_) rfl (by kernel_rfl) (by kernel_rfl) (by kernel_rfl) (fun _ _ _ h => h) (Or.inl ⟨by rfl, ?_⟩) (by assumption) ?_
                rotate_left 1
                · (intro w hSw; (try dsimp only at hSw); go_simp); all_goals (with_reducible rfl)
                try simp only [Act.put, List.setIfInBounds_toArray, List.set_cons_zero, List.set_cons_succ]
                refine wpAnyH_done (by kernel_rfl) ?_ _
                go_wp2_with fail
                go_meet
                exact ⟨b18, 2, c18, [y0 - 3, y1 + 2], rfl, rfl, by omega, DF⟩
              · go_simp
                refine hK.out _ _ (by (try dsimp only); exact hHeld) (fun hHeld2 => ?_)
                clear hK K hHeld
                have hHeld := hHeld2
                clear hHeld2
                try simp only [Act.put, List.setIfInBounds_toArray, List.set_cons_zero, List.set_cons_succ]
                refine wpAnyH_ready (rs := [4, 17]) (by kernel_rfl) (by simp) ?_
                refine AllReadyH.cons (o := { dst := some 35, op := Go.Op.buildSlice 24 1 #[(0, Go.Operand.tmp 34)], type := 24, pos := "l11_fields.go:217", after := #[{ on := 3, ground := Go.Ground.data }], guard := none }) rfl (fun K hK => ?_) (AllReadyH.cons (o := { dst := some 48, op := Go.Op.call { callee := Go.Callee.builtin Go.Builtin.append, args := #[Go.Operand.tmp 39, Go.Operand.tmp 47], argTypes := #[24, 24] }, type := 24, pos := "l11_fields.go:217", after := #[{ on := 8, ground := Go.Ground.data }, { on := 16, ground := Go.Ground.data }, { on := 8, ground := Go.Ground.chain }], guard := none }) rfl (fun K hK => ?_) AllReadyH.nil)
                · go_simp
                  refine hK.out _ _ (by (try dsimp only); go_keep) (fun hHeld2 => ?_)
                  clear hK K hHeld
                  have hHeld := hHeld2
                  clear hHeld2
                  try simp only [Act.put, List.setIfInBounds_toArray, List.set_cons_zero, List.set_cons_succ]
                  have Tv51 : Hid (TR r w (v47.alloc (.cells #[.int .i64 (y0 - 3)] 2)) (.slice (some ⟨ge, 0, none⟩) ne ce) (.slice (some ⟨ga, 0, none⟩) k ca) E A) := Tv47.out.alloc (.cells #[.int .i64 (y0 - 3)] 2)
                  have R16v51 : Hid ((v47.alloc (.cells #[.int .i64 (y0 - 3)] 2)).ownsRow (r + 1) 2 1 (.slice (some ⟨b16, 0, none⟩) 1 1) 1 [.int .i64 (y1 + 2)]) := row_alloc R16v47.out (.cells #[.int .i64 (y0 - 3)] 2)
                  have R5v51 : Hid ((v47.alloc (.cells #[.int .i64 (y0 - 3)] 2)).ownsRow (r + 1) 2 1 (.slice (some ⟨b5, 0, none⟩) 0 0) 0 []) := row_alloc R5v47.out (.cells #[.int .i64 (y0 - 3)] 2)
                  have R4v51 : Hid ((v47.alloc (.cells #[.int .i64 (y0 - 3)] 2)).ownsRow (r + 1) 2 1 (.slice (some ⟨v47.heap.size, 0, none⟩) 1 1) 1 [.int .i64 (y0 - 3)]) := World.ownsRow_lit v47 #[.int .i64 (y0 - 3)] 1 (by have := Tv47.out.rd.lt; omega) (by unfold maxLen; omega) rfl
                  have lt4 : ge < v47.heap.size ∧ ga < v47.heap.size ∧ r < v47.heap.size := ⟨(Tv47.out.e.lt ge rfl).2, (Tv47.out.a.lt ga rfl).2, Tv47.out.rd.lt⟩
                  have lt4_16 : b16 < v47.heap.size := (R16v47.out.lt b16 rfl).2
                  have lt4_5 : b5 < v47.heap.size := (R5v47.out.lt b5 rfl).2
                  clear Tv47 R16v47 R5v47
                  generalize v47.alloc (.cells #[.int .i64 (y0 - 3)] 2) = v51 at hHeld Tv51 R16v51 R5v51 R4v51 ⊢
                  generalize v47.heap.size = b4 at R4v51 lt4 lt4_16 lt4_5 ⊢
                  refine wpAnyH_ready (rs := [17]) (by kernel_rfl) (by simp) ?_
                  refine AllReadyH.cons (o := { dst := some 48, op := Go.Op.call { callee := Go.Callee.builtin Go.Builtin.append, args := #[Go.Operand.tmp 39, Go.Operand.tmp 47], argTypes := #[24, 24] }, type := 24, pos := "l11_fields.go:217", after := #[{ on := 8, ground := Go.Ground.data }, { on := 16, ground := Go.Ground.data }, { on := 8, ground := Go.Ground.chain }], guard := none }) rfl (fun K hK => ?_) AllReadyH.nil
                  have lq : ge < v51.heap.size ∧ ga < v51.heap.size ∧ r < v51.heap.size := ⟨(Tv51.out.e.lt ge rfl).2, (Tv51.out.a.lt ga rfl).2, Tv51.out.rd.lt⟩
                  have lq4 : b4 < v51.heap.size := (R4v51.out.lt b4 rfl).2
                  refine step_append_lies _ (by rfl) _ _ 24 (by rfl) (r + 1) 2 i0 (.int .i64 0) 1 8 Try.underlying24 hi hz0 hz1 hz2 rfl (by decide) _ _ _ (by rfl) R5v51.out ⟨b16, 0, none⟩ 1 1 [.int .i64 (y1 + 2)] (by rfl) rfl (row_news R16v51.out) (by intro u hu; simp at hu; subst hu; rfl) (by decide) (by unfold maxLen; omega) (by omega) (by have := Tv51.out.rd.lt; omega) v51.heap.size rfl ?_
                  intro b17 c17 v52 hown hgrow hat hlt
                  replace hgrow : v51.grownBy v52 (some b5) := hgrow
                  replace hat : b5 = b17 ∨ b17 = v51.heap.size := (by rcases hat with h | h; exact .inl (by simpa [Value.ownBlock] using h); exact .inr h)
                  refine hK.out _ _ (by (try dsimp only); exact ⟨(grown_cell hgrow lq.1 (by simp; omega)).trans hHeld.1, (grown_cell hgrow lq.1 (by simp; omega)).trans hHeld.2⟩) (fun hHeld2 => ?_)
                  clear hK K hHeld
                  have hHeld := hHeld2
                  clear hHeld2
                  try simp only [Act.put, List.setIfInBounds_toArray, List.set_cons_zero, List.set_cons_succ]
                  have Tv52 : Hid (TR r w v52 (.slice (some ⟨ge, 0, none⟩) ne ce) (.slice (some ⟨ga, 0, none⟩) k ca) E A) := Tv51.out.grown hgrow (by have := R5v51.out.lt b5 rfl; omega) (by simp [Value.ownBlock]; omega) (by simp [Value.ownBlock]; omega)
                  have R17v52 : Hid (v52.ownsRow (r + 1) 2 1 (.slice (some ⟨b17, 0, none⟩) 1 c17) 1 [.int .i64 (y1 + 2)]) := hown
                  have R4v52 : Hid (v52.ownsRow (r + 1) 2 1 (.slice (some ⟨b4, 0, none⟩) 1 1) 1 [.int .i64 (y0 - 3)]) := row_grown R4v51.out hgrow (fun g h x => by simp [Value.ownBlock] at h x; omega)
                  have lt17 : ge ≠ b17 ∧ ga ≠ b17 ∧ b4 ≠ b17 := by omega
                  clear hown hgrow hat hlt Tv51 R16v51 R5v51 R4v51
                  refine wpAnyH_ready (rs := [18]) (by kernel_rfl) (by simp) ?_
                  refine AllReadyH.cons (o := { dst := some 49, op := Go.Op.call { callee := Go.Callee.builtin Go.Builtin.append, args := #[Go.Operand.tmp 35, Go.Operand.tmp 48], argTypes := #[24, 24] }, type := 24, pos := "l11_fields.go:217", after := #[{ on := 4, ground := Go.Ground.data }, { on := 17, ground := Go.Ground.data }, { on := 17, ground := Go.Ground.chain }], guard := none }) rfl (fun K hK => ?_) AllReadyH.nil
                  have lq : ge < v52.heap.size ∧ ga < v52.heap.size ∧ r < v52.heap.size := ⟨(Tv52.out.e.lt ge rfl).2, (Tv52.out.a.lt ga rfl).2, Tv52.out.rd.lt⟩
                  refine step_append_lies _ (by rfl) _ _ 24 (by rfl) (r + 1) 2 i0 (.int .i64 0) 1 8 Try.underlying24 hi hz0 hz1 hz2 rfl (by decide) _ _ _ (by rfl) R4v52.out ⟨b17, 0, none⟩ 1 c17 [.int .i64 (y1 + 2)] (by rfl) rfl (row_news R17v52.out) (by intro u hu; simp at hu; subst hu; rfl) (by decide) (by unfold maxLen; omega) (by omega) (by have := Tv52.out.rd.lt; omega) v52.heap.size rfl ?_
                  intro b18 c18 v53 hown hgrow hat hlt
                  replace hgrow : v52.grownBy v53 (some b4) := hgrow
                  replace hat : b4 = b18 ∨ b18 = v52.heap.size := (by rcases hat with h | h; exact .inl (by simpa [Value.ownBlock] using h); exact .inr h)
                  refine hK.out _ _ (by (try dsimp only); exact ⟨(grown_cell hgrow lq.1 (by simp; omega)).trans hHeld.1, (grown_cell hgrow lq.1 (by simp; omega)).trans hHeld.2⟩) (fun hHeld2 => ?_)
                  clear hK K hHeld
                  have hHeld := hHeld2
                  clear hHeld2
                  try simp only [Act.put, List.setIfInBounds_toArray, List.set_cons_zero, List.set_cons_succ]
                  have Tv53 : TR r w v53 (.slice (some ⟨ge, 0, none⟩) ne ce) (.slice (some ⟨ga, 0, none⟩) k ca) E A := Tv52.out.grown hgrow (by have := R4v52.out.lt b4 rfl; omega) (by simp [Value.ownBlock]; omega) (by simp [Value.ownBlock]; omega)
                  have DF : Hid (DR r w v53 (.slice (some ⟨ge, 0, none⟩) ne ce) (.slice (some ⟨ga, 0, none⟩) k ca) (.slice (some ⟨b18, 0, none⟩) 2 c18) E A [y0 - 3, y1 + 2]) := ⟨Tv53, hown, fun g h => by simp [Value.ownBlock] at h; subst h; simp [Value.ownBlock]; omega⟩
                  clear hown hgrow hat hlt Tv53 R4v52 R17v52 Tv52
                  refine wpAnyH_take (i := 19) (oi := { dst := some 9, op := Go.Op.assign (Go.Operand.tmp 49), type := 24, pos := "l11_fields.go:217", after := #[{ on := 18, ground := Go.Ground.data }, { on := 18, ground := Go.Ground.chain }, { on := 0, ground := Go.Ground.phase }, { on := 1, ground := Go.Ground.phase }, { on := 2, ground := Go.Ground.phase }, { on := 3, ground := Go.Ground.phase }, { on := 4, ground := Go.Ground.phase }, { on := 5, ground := Go.Ground.phase }, { on := 6, ground := Go.Ground.phase }, { on := 7, ground := Go.Ground.phase }, { on := 8, ground := Go.Ground.phase }, { on := 9, ground := Go.Ground.phase }, { on := 10, ground := Go.Ground.phase }, { on := 11, ground := Go.Ground.phase }, { on := 12, ground := Go.Ground.phase }, { on := 13, ground := Go.Ground.phase }, { on := 14, ground := Go.Ground.phase }, { on := 15, ground := Go.Ground.phase }, { on := 16, ground := Go.Ground.phase }, { on := 17, ground := Go.Ground.phase }, { on := 18, ground := Go.Ground.phase }], guard := none }) (v := ?_) rfl (by kernel_rfl) (by kernel_rfl) (by kernel_rfl) (fun _ _ _ h => h) (Or.inl ⟨by rfl, ?_⟩) (by assumption) ?_
                  rotate_left 1
                  · (intro w hSw; (try dsimp only at hSw); go_simp); all_goals (with_reducible rfl)
                  try simp only [Act.put, List.setIfInBounds_toArray, List.set_cons_zero, List.set_cons_succ]
                  refine wpAnyH_done (by kernel_rfl) ?_ _
                  go_wp2_with fail
                  go_meet
                  exact ⟨b18, 2, c18, [y0 - 3, y1 + 2], rfl, rfl, by omega, DF⟩
                · have lq : ge < v47.heap.size ∧ ga < v47.heap.size ∧ r < v47.heap.size := ⟨(Tv47.out.e.lt ge rfl).2, (Tv47.out.a.lt ga rfl).2, Tv47.out.rd.lt⟩
                  refine step_append_lies _ (by rfl) _ _ 24 (by rfl) (r + 1) 2 i0 (.int .i64 0) 1 8 Try.underlying24 hi hz0 hz1 hz2 rfl (by decide) _ _ _ (by rfl) R5v47.out ⟨b16, 0, none⟩ 1 1 [.int .i64 (y1 + 2)] (by rfl) rfl (row_news R16v47.out) (by intro u hu; simp at hu; subst hu; rfl) (by decide) (by unfold maxLen; omega) (by omega) (by have := Tv47.out.rd.lt; omega) v47.heap.size rfl ?_
                  intro b17 c17 v54 hown hgrow hat hlt
                  replace hgrow : v47.grownBy v54 (some b5) := hgrow
                  replace hat : b5 = b17 ∨ b17 = v47.heap.size := (by rcases hat with h | h; exact .inl (by simpa [Value.ownBlock] using h); exact .inr h)
                  refine hK.out _ _ (by (try dsimp only); exact ⟨(grown_cell hgrow lq.1 (by simp; omega)).trans hHeld.1, (grown_cell hgrow lq.1 (by simp; omega)).trans hHeld.2⟩) (fun hHeld2 => ?_)
                  clear hK K hHeld
                  have hHeld := hHeld2
                  clear hHeld2
                  try simp only [Act.put, List.setIfInBounds_toArray, List.set_cons_zero, List.set_cons_succ]
                  have Tv54 : Hid (TR r w v54 (.slice (some ⟨ge, 0, none⟩) ne ce) (.slice (some ⟨ga, 0, none⟩) k ca) E A) := Tv47.out.grown hgrow (by have := R5v47.out.lt b5 rfl; omega) (by simp [Value.ownBlock]; omega) (by simp [Value.ownBlock]; omega)
                  have R17v54 : Hid (v54.ownsRow (r + 1) 2 1 (.slice (some ⟨b17, 0, none⟩) 1 c17) 1 [.int .i64 (y1 + 2)]) := hown
                  have lt17 : ge ≠ b17 ∧ ga ≠ b17 := by omega
                  clear hown hgrow hat hlt Tv47 R16v47 R5v47
                  refine wpAnyH_ready (rs := [4]) (by kernel_rfl) (by simp) ?_
                  refine AllReadyH.cons (o := { dst := some 35, op := Go.Op.buildSlice 24 1 #[(0, Go.Operand.tmp 34)], type := 24, pos := "l11_fields.go:217", after := #[{ on := 3, ground := Go.Ground.data }], guard := none }) rfl (fun K hK => ?_) AllReadyH.nil
                  go_simp
                  refine hK.out _ _ (by (try dsimp only); go_keep) (fun hHeld2 => ?_)
                  clear hK K hHeld
                  have hHeld := hHeld2
                  clear hHeld2
                  try simp only [Act.put, List.setIfInBounds_toArray, List.set_cons_zero, List.set_cons_succ]
                  have Tv55 : Hid (TR r w (v54.alloc (.cells #[.int .i64 (y0 - 3)] 2)) (.slice (some ⟨ge, 0, none⟩) ne ce) (.slice (some ⟨ga, 0, none⟩) k ca) E A) := Tv54.out.alloc (.cells #[.int .i64 (y0 - 3)] 2)
                  have R17v55 : Hid ((v54.alloc (.cells #[.int .i64 (y0 - 3)] 2)).ownsRow (r + 1) 2 1 (.slice (some ⟨b17, 0, none⟩) 1 c17) 1 [.int .i64 (y1 + 2)]) := row_alloc R17v54.out (.cells #[.int .i64 (y0 - 3)] 2)
                  have R4v55 : Hid ((v54.alloc (.cells #[.int .i64 (y0 - 3)] 2)).ownsRow (r + 1) 2 1 (.slice (some ⟨v54.heap.size, 0, none⟩) 1 1) 1 [.int .i64 (y0 - 3)]) := World.ownsRow_lit v54 #[.int .i64 (y0 - 3)] 1 (by have := Tv54.out.rd.lt; omega) (by unfold maxLen; omega) rfl
                  have lt4 : ge < v54.heap.size ∧ ga < v54.heap.size ∧ r < v54.heap.size := ⟨(Tv54.out.e.lt ge rfl).2, (Tv54.out.a.lt ga rfl).2, Tv54.out.rd.lt⟩
                  have lt4_17 : b17 < v54.heap.size := (R17v54.out.lt b17 rfl).2
                  clear Tv54 R17v54
                  generalize v54.alloc (.cells #[.int .i64 (y0 - 3)] 2) = v55 at hHeld Tv55 R17v55 R4v55 ⊢
                  generalize v54.heap.size = b4 at R4v55 lt4 lt4_17 ⊢
                  refine wpAnyH_ready (rs := [18]) (by kernel_rfl) (by simp) ?_
                  refine AllReadyH.cons (o := { dst := some 49, op := Go.Op.call { callee := Go.Callee.builtin Go.Builtin.append, args := #[Go.Operand.tmp 35, Go.Operand.tmp 48], argTypes := #[24, 24] }, type := 24, pos := "l11_fields.go:217", after := #[{ on := 4, ground := Go.Ground.data }, { on := 17, ground := Go.Ground.data }, { on := 17, ground := Go.Ground.chain }], guard := none }) rfl (fun K hK => ?_) AllReadyH.nil
                  have lq : ge < v55.heap.size ∧ ga < v55.heap.size ∧ r < v55.heap.size := ⟨(Tv55.out.e.lt ge rfl).2, (Tv55.out.a.lt ga rfl).2, Tv55.out.rd.lt⟩
                  refine step_append_lies _ (by rfl) _ _ 24 (by rfl) (r + 1) 2 i0 (.int .i64 0) 1 8 Try.underlying24 hi hz0 hz1 hz2 rfl (by decide) _ _ _ (by rfl) R4v55.out ⟨b17, 0, none⟩ 1 c17 [.int .i64 (y1 + 2)] (by rfl) rfl (row_news R17v55.out) (by intro u hu; simp at hu; subst hu; rfl) (by decide) (by unfold maxLen; omega) (by omega) (by have := Tv55.out.rd.lt; omega) v55.heap.size rfl ?_
                  intro b18 c18 v56 hown hgrow hat hlt
                  replace hgrow : v55.grownBy v56 (some b4) := hgrow
                  replace hat : b4 = b18 ∨ b18 = v55.heap.size := (by rcases hat with h | h; exact .inl (by simpa [Value.ownBlock] using h); exact .inr h)
                  refine hK.out _ _ (by (try dsimp only); exact ⟨(grown_cell hgrow lq.1 (by simp; omega)).trans hHeld.1, (grown_cell hgrow lq.1 (by simp; omega)).trans hHeld.2⟩) (fun hHeld2 => ?_)
                  clear hK K hHeld
                  have hHeld := hHeld2
                  clear hHeld2
                  try simp only [Act.put, List.setIfInBounds_toArray, List.set_cons_zero, List.set_cons_succ]
                  have Tv56 : TR r w v56 (.slice (some ⟨ge, 0, none⟩) ne ce) (.slice (some ⟨ga, 0, none⟩) k ca) E A := Tv55.out.grown hgrow (by have := R4v55.out.lt b4 rfl; omega) (by simp [Value.ownBlock]; omega) (by simp [Value.ownBlock]; omega)
                  have DF : Hid (DR r w v56 (.slice (some ⟨ge, 0, none⟩) ne ce) (.slice (some ⟨ga, 0, none⟩) k ca) (.slice (some ⟨b18, 0, none⟩) 2 c18) E A [y0 - 3, y1 + 2]) := ⟨Tv56, hown, fun g h => by simp [Value.ownBlock] at h; subst h; simp [Value.ownBlock]; omega⟩
                  clear hown hgrow hat hlt Tv56 R4v55 R17v55 Tv55
                  refine wpAnyH_take (i := 19) (oi := { dst := some 9, op := Go.Op.assign (Go.Operand.tmp 49), type := 24, pos := "l11_fields.go:217", after := #[{ on := 18, ground := Go.Ground.data }, { on := 18, ground := Go.Ground.chain }, { on := 0, ground := Go.Ground.phase }, { on := 1, ground := Go.Ground.phase }, { on := 2, ground := Go.Ground.phase }, { on := 3, ground := Go.Ground.phase }, { on := 4, ground := Go.Ground.phase }, { on := 5, ground := Go.Ground.phase }, { on := 6, ground := Go.Ground.phase }, { on := 7, ground := Go.Ground.phase }, { on := 8, ground := Go.Ground.phase }, { on := 9, ground := Go.Ground.phase }, { on := 10, ground := Go.Ground.phase }, { on := 11, ground := Go.Ground.phase }, { on := 12, ground := Go.Ground.phase }, { on := 13, ground := Go.Ground.phase }, { on := 14, ground := Go.Ground.phase }, { on := 15, ground := Go.Ground.phase }, { on := 16, ground := Go.Ground.phase }, { on := 17, ground := Go.Ground.phase }, { on := 18, ground := Go.Ground.phase }], guard := none }) (v := ?_) rfl (by kernel_rfl) (by kernel_rfl) (by kernel_rfl) (fun _ _ _ h => h) (Or.inl ⟨by rfl, ?_⟩) (by assumption) ?_
                  rotate_left 1
                  · (intro w hSw; (try dsimp only at hSw); go_simp); all_goals (with_reducible rfl)
                  try simp only [Act.put, List.setIfInBounds_toArray, List.set_cons_zero, List.set_cons_succ]
                  refine wpAnyH_done (by kernel_rfl) ?_ _
                  go_wp2_with fail
                  go_meet
                  exact ⟨b18, 2, c18, [y0 - 3, y1 + 2], rfl, rfl, by omega, DF⟩
      case rest =>
        obtain ⟨gt2, nt2, ct2, T, rfl, hT, lT, DC⟩ := hcut
        obtain ⟨w6, hw6⟩ : ∃ q : World, q = wc := ⟨_, rfl⟩
        subst hw6
        have HT : Hid (nt2 = T.length) := hT
        have HK : Hid (k + 1 = ne) := hk'
        have HAK : Hid (A.length = k) := hA
        clear D5 HNT lL hT hk' hA hlt j1
        have lk : k ≤ 22 := by have := HK.out; omega
        have lk2 : 2 ≤ k := by have := HK.out; omega
        go_wp2_with fail
        refine (below_all r _ DC.out.tr.rd 24 (by omega) (by omega)).mono ?_
        rintro e w7 ⟨⟨y, ⟨hy1, hy2⟩, rfl⟩, kk, tt⟩
        replace hy2 : y < 24 := hy2
        have D7 : Hid (DR r w w7 (.slice (some ⟨ge, 0, none⟩) ne ce) (.slice (some ⟨ga, 0, none⟩) k ca) (.slice (some ⟨gt2, 0, none⟩) nt2 ct2) E A T) := DC.out.turn tt kk
        have n7 : r < w7.heap.size := kk.lt
        clear kk tt DC
        by_cases y6 : 6 ≤ y
        · have e0 : (y == 0) = false := by simp; omega
          have e1 : (y == 1) = false := by simp; omega
          have e2 : (y == 2) = false := by simp; omega
          have e3 : (y == 3) = false := by simp; omega
          have e4 : (y == 4) = false := by simp; omega
          have e5 : (y == 5) = false := by simp; omega
          have DD : Hid (DR r w w7 (.slice (some ⟨ge, 0, none⟩) ne ce) (.slice (some ⟨ga, 0, none⟩) k ca) (.slice (some ⟨gt2, 0, none⟩) nt2 ct2) E A T) := D7.out
          clear D7
          have FF := DD.out.fin
          have HFF : Hid (_ ∧ _ ∧ _ ∧ _) := FF
          clear FF DD
          go_wp2_with fail
          exact bodyPost_ret (v := .tuple #[(.slice (some ⟨ge, 0, none⟩) ne ce), (.slice (some ⟨ga, 0, none⟩) k ca), (.slice (some ⟨gt2, 0, none⟩) nt2 ct2)]) (by simp [results, Try.results5, go_sem]) rfl ⟨_, _, _, E, A, T, rfl, HFF.out.1, HFF.out.2.1, HFF.out.2.2.1, by have := HNE.out; omega, by have := HAK.out; omega, by have := HT.out; omega, HFF.out.2.2.2⟩
        by_cases y0 : y = 0
        · subst y0
          have DB : Hid (DR r w (w7.alloc (.cells #[.int .i64 (-1), .int .i64 1000000000000, .int .i64 1000000000001] 2)) (.slice (some ⟨ge, 0, none⟩) ne ce) (.slice (some ⟨ga, 0, none⟩) k ca) (.slice (some ⟨gt2, 0, none⟩) nt2 ct2) E A T) := D7.out.alloc _
          go_wp2_with fail
          refine (below_all r _ DB.out.tr.rd 3 (by omega) (by omega)).mono ?_
          rintro e w8 ⟨⟨z, ⟨hz1', hz2'⟩, rfl⟩, kk, tt⟩
          replace hz2' : z < 3 := hz2'
          obtain ⟨q, cq⟩ := lit3 (-1) 1000000000000 1000000000001 z tt n7 hz1' hz2'
          have D8 := DB.out.turn tt kk
          have DD : Hid (DR r w (w8.setCell ⟨ga, 0, none⟩ (.int .i64 q)) (.slice (some ⟨ge, 0, none⟩) ne ce) (.slice (some ⟨ga, 0, none⟩) k ca) (.slice (some ⟨gt2, 0, none⟩) nt2 ct2) E (A.set 0 q) T) := D8.seta HAK.out.symm q
          have ac : w8.cell? ⟨ga, 0, none⟩ = some (.int .i64 (A.getD 0 0)) := row_cell (L := A) (cap := ca) (base := r + 1) (by rw [HAK.out]; have h := D8.tr.a; rw [HAK.out] at h; exact h) 0 (by have := HAK.out; omega)
          have af : w8.frozen? ⟨ga, 0, none⟩ = false := (by have h := D8.tr.a; rw [HAK.out] at h; exact h.frozenAt 0)
          have ak : (0 : Int) < (k : Int) := by omega
          have ak2 : 0 < k := by omega
          clear kk tt D8 DB D7
          have FF := DD.out.fin
          have HFF : Hid (_ ∧ _ ∧ _ ∧ _) := FF
          clear FF DD
          go_wp2_with fail
          exact bodyPost_ret (v := .tuple #[(.slice (some ⟨ge, 0, none⟩) ne ce), (.slice (some ⟨ga, 0, none⟩) k ca), (.slice (some ⟨gt2, 0, none⟩) nt2 ct2)]) (by simp [results, Try.results5, go_sem]) rfl ⟨_, _, _, E, (A.set 0 q), T, rfl, HFF.out.1, HFF.out.2.1, HFF.out.2.2.1, by have := HNE.out; omega, by have := HAK.out; simp; omega, by have := HT.out; omega, HFF.out.2.2.2⟩
        by_cases y3 : y = 3
        · subst y3
          have R7 := D7.out.tr.a
          rw [HAK.out] at R7
          go_wp2_with (at_builtin; refine wpList_append_lies _ rfl _ _ 24 rfl (r + 1) 2 i0 (.int .i64 0) 1 8 Try.underlying24 hi hz0 hz1 hz2 rfl (by decide) _ _ _ rfl (R7.alloc _) ⟨w7.heap.size, 0, none⟩ 1 1 [.int .i64 1] rfl rfl (cell_one_new w7 _ 2) (by intro u hu; simp at hu; subst hu; rfl) (by decide) (by unfold maxLen; omega) (by omega) (by simp; omega) (w7.heap.size + 1) (by simp) ?_)
          intro g2 cap2 w8 hown hgrow hat _
          have hA5 : (A ++ [1]).length = k + 1 := by simp [HAK.out]
          have T8 : TR r w w8 (.slice (some ⟨ge, 0, none⟩) ne ce) (.slice (some ⟨g2, 0, none⟩) (k + 1) cap2) E (A ++ [1]) := D7.out.tr.app _ (by rw [ints_snoc]; exact hown) hgrow hat hA5
          have RT8 : w8.ownsRow (r + 1) 2 1 (.slice (some ⟨gt2, 0, none⟩) nt2 ct2) T.length (ints T) := row_grown (row_alloc D7.out.t _) hgrow (fun g hg x => (D7.out.d2 g hg).2 x)
          have DD : Hid (DR r w w8 (.slice (some ⟨ge, 0, none⟩) ne ce) (.slice (some ⟨g2, 0, none⟩) (k + 1) cap2) (.slice (some ⟨gt2, 0, none⟩) nt2 ct2) E (A ++ [1]) T) := ⟨T8, RT8, fun g hg => ⟨(D7.out.d2 g hg).1, fun x => by
            have h1 := (D7.out.t.lt g hg).2
            have x' : g2 = g := by simpa [Value.ownBlock] using x
            rcases hat with hh | hh
            · have h2 : ga = g2 := by simpa [Value.ownBlock] using hh
              exact (D7.out.d2 g hg).2 (by rw [← x', ← h2]; rfl)
            · omega⟩⟩
          clear hown hgrow hat T8 RT8 D7 R7
          have FF := DD.out.fin
          have HFF : Hid (_ ∧ _ ∧ _ ∧ _) := FF
          clear FF DD
          go_wp2_with fail
          exact bodyPost_ret (v := .tuple #[(.slice (some ⟨ge, 0, none⟩) ne ce), (.slice (some ⟨g2, 0, none⟩) (k + 1) cap2), (.slice (some ⟨gt2, 0, none⟩) nt2 ct2)]) (by simp [results, Try.results5, go_sem]) rfl ⟨_, _, _, E, (A ++ [1]), T, rfl, HFF.out.1, HFF.out.2.1, HFF.out.2.2.1, by have := HNE.out; omega, by have := HAK.out; omega, by have := HT.out; omega, HFF.out.2.2.2⟩
        by_cases y4 : y = 4
        · subst y4
          have hcap : 1 ≤ ct2 := by
            rcases row_cases D7.out.t with ⟨e, _⟩ | ⟨g, cap, e, _, _, h2, _⟩
            · have hT := HT.out; rw [e] at hT; simp at hT; omega
            · simp at e; omega
          have sl : ∀ w : World, (Instr.slice 24 (.slice (some ⟨gt2, 0, none⟩) nt2 ct2) none (some (.int .i64 1)) none).run Try.prog w = .ok (.slice (some ⟨gt2, 0, none⟩) 1 ct2) w := fun w => slice_h _ nt2 ct2 1 hcap w
          have FF := D7.out.fin
          have RT1 : Lists.Reads w7 (.slice (some ⟨gt2, 0, none⟩) 1 ct2) [T.getD 0 0] := by
            have h0 := row_cell (L := T) (cap := ct2) (base := r + 1) (w := w7) (g := gt2) (by rw [← HT.out]; have h := D7.out.t; rw [← HT.out] at h; exact h) 0 (by have := HT.out; omega)
            have hm : ct2 ≤ maxLen := by
              rcases row_cases D7.out.t with ⟨e, _⟩ | ⟨g, cap, e, _, _, _, h3⟩
              · have hT := HT.out; rw [e] at hT; simp at hT; omega
              · simp at e; omega
            refine Or.inr ⟨gt2, 0, ct2, rfl, hcap, hm, (D7.out.t.lt gt2 rfl).2, fun i hi => ?_⟩
            have : i = 0 := by simp at hi; omega
            subst this
            exact h0
          have HFF : Hid (_ ∧ _ ∧ _ ∧ _) := ⟨FF.1, FF.2.1, RT1, FF.2.2.2⟩
          clear FF D7 RT1
          go_wp2_with fail
          exact bodyPost_ret (v := .tuple #[(.slice (some ⟨ge, 0, none⟩) ne ce), (.slice (some ⟨ga, 0, none⟩) k ca), .slice (some ⟨gt2, 0, none⟩) 1 ct2]) (by simp [results, Try.results5, go_sem]) rfl ⟨_, _, _, E, A, [T.getD 0 0], rfl, HFF.out.1, HFF.out.2.1, HFF.out.2.2.1, by have := HNE.out; omega, by have := HAK.out; omega, by simp, HFF.out.2.2.2⟩
        by_cases y5 : y = 5
        · subst y5
          have rE := D7.out.tr.e
          have rE' : (w7.alloc (.cells #[] 2)).ownsRow (r + 1) 2 1 (.slice (some ⟨ge, 0, none⟩) E.length ce) E.length (ints E) := row_alloc (by rw [← HNE.out] at rE ⊢; exact rE) _
          have R7 : Hid ((w7.alloc (.cells #[] 2)).ownsRow (r + 1) 2 1 (.slice (some ⟨w7.heap.size, 0, none⟩) 0 0) 0 []) := World.ownsRow_lit w7 #[] 0 (by omega) (Nat.zero_le _) rfl
          have NW : Hid (∀ j u, (ints E)[j]? = some u → (w7.alloc (.cells #[] 2)).cell? ((⟨ge, 0, none⟩ : Addr).add j) = some u) := fun j u hj => (by
            have := rE'.cellAt j (by
              have := List.getElem?_eq_some_iff.1 hj
              obtain ⟨h, _⟩ := this
              simp [ints] at h; omega)
            have e : (⟨ge, 0, none⟩ : Addr).add j = ⟨ge, j, none⟩ := by
              unfold Addr.add
              split
              · rename_i h; subst h; rfl
              · simp
            rw [e, this, hj])
          have ln5 : (ints E).length = ne * 1 := by simp [ints, HNE.out]
          clear rE rE'
          go_wp2_with (at_builtin; refine wpList_append_lies _ rfl _ _ 24 rfl (r + 1) 2 i0 (.int .i64 0) 1 8 Try.underlying24 hi hz0 hz1 hz2 rfl (by decide) _ _ _ rfl R7.out ⟨ge, 0, none⟩ ne ce (ints E) rfl ln5 NW.out (by intro u hu; simp [ints] at hu; obtain ⟨x, _, rfl⟩ := hu; rfl) (by omega) (by unfold maxLen; omega) (by omega) (by simp; omega) (w7.heap.size + 1) (by simp) ?_)
          intro g2 cap2 w8 hown hgrow hat _
          replace hgrow : (w7.alloc (.cells #[] 2)).grownBy w8 (some w7.heap.size) := hgrow
          have le := (D7.out.tr.e.lt ge rfl).2
          have la := (D7.out.tr.a.lt ga rfl).2
          have T8 : TR r w w8 (.slice (some ⟨ge, 0, none⟩) ne ce) (.slice (some ⟨ga, 0, none⟩) k ca) E A := (D7.out.tr.alloc _).grown hgrow (by omega) (by simp [Value.ownBlock]; omega) (by simp [Value.ownBlock]; omega)
          have hat' : g2 = w7.heap.size ∨ g2 = w7.heap.size + 1 := by
            rcases hat with hh | hh
            · left; have : w7.heap.size = g2 := by simpa [Value.ownBlock] using hh
              omega
            · exact .inr hh
          have ht8 : w8.ownsRow (r + 1) 2 1 (.slice (some ⟨g2, 0, none⟩) ne cap2) E.length (ints E) := by rw [← HNE.out]; exact hown
          have DD : Hid (DR r w w8 (.slice (some ⟨ge, 0, none⟩) ne ce) (.slice (some ⟨ga, 0, none⟩) k ca) (.slice (some ⟨g2, 0, none⟩) ne cap2) E A E) := ⟨T8, ht8, fun g hg => by
            have x' : g2 = g := by simpa [Value.ownBlock] using hg
            refine ⟨fun x => ?_, fun x => ?_⟩
            · have : ge = g := by simpa [Value.ownBlock] using x
              omega
            · have : ga = g := by simpa [Value.ownBlock] using x
              omega⟩
          clear hown hgrow hat hat' T8 ht8 D7 R7 NW
          have FF := DD.out.fin
          have HFF : Hid (_ ∧ _ ∧ _ ∧ _) := FF
          clear FF DD
          go_wp2_with fail
          exact bodyPost_ret (v := .tuple #[(.slice (some ⟨ge, 0, none⟩) ne ce), (.slice (some ⟨ga, 0, none⟩) k ca), (.slice (some ⟨g2, 0, none⟩) ne cap2)]) (by simp [results, Try.results5, go_sem]) rfl ⟨_, _, _, E, A, E, rfl, HFF.out.1, HFF.out.2.1, HFF.out.2.2.1, by have := HNE.out; omega, by have := HAK.out; omega, by have := HNE.out; omega, HFF.out.2.2.2⟩
        have CE : Hid (∀ (wx : World), DR r w wx (.slice (some ⟨ge, 0, none⟩) ne ce) (.slice (some ⟨ga, 0, none⟩) k ca) (.slice (some ⟨gt2, 0, none⟩) nt2 ct2) E A T → ∀ o, o < ne → wx.cell? ⟨ge, o, none⟩ = some (.int .i64 (E.getD o 0)) ∧ wx.frozen? ⟨ge, o, none⟩ = false) := fun wx d o ho => (by
          have h := d.tr.e
          rw [← HNE.out] at h
          refine ⟨row_cell (L := E) (cap := ce) (base := r + 1) (by rw [← HNE.out]; exact h) o (by rw [← HNE.out]; exact ho), h.frozenAt o⟩)
        have CT : Hid (∀ (wx : World), DR r w wx (.slice (some ⟨ge, 0, none⟩) ne ce) (.slice (some ⟨ga, 0, none⟩) k ca) (.slice (some ⟨gt2, 0, none⟩) nt2 ct2) E A T → ∀ o, o < nt2 → wx.cell? ⟨gt2, o, none⟩ = some (.int .i64 (T.getD o 0)) ∧ wx.frozen? ⟨gt2, o, none⟩ = false) := fun wx d o ho => (by
          have h := d.t
          rw [← HT.out] at h
          refine ⟨row_cell (L := T) (cap := ct2) (base := r + 1) (by rw [← HT.out]; exact h) o (by rw [← HT.out]; exact ho), h.frozenAt o⟩)
        by_cases y1 : y = 1
        · subst y1
          obtain ⟨ex1, hex1⟩ : ∃ x, x = E.getD 1 0 := ⟨_, rfl⟩
          obtain ⟨ex0, hex0⟩ : ∃ x, x = E.getD 0 0 := ⟨_, rfl⟩
          have C1 : Hid (∀ (wx : World), DR r w wx (.slice (some ⟨ge, 0, none⟩) ne ce) (.slice (some ⟨ga, 0, none⟩) k ca) (.slice (some ⟨gt2, 0, none⟩) nt2 ct2) E A T → wx.cell? ⟨ge, 1, none⟩ = some (.int .i64 ex1)) := fun wx d => (by rw [hex1]; exact (CE.out wx d 1 (by omega)).1)
          have C0 : Hid (∀ (wx : World), DR r w wx (.slice (some ⟨ge, 0, none⟩) ne ce) (.slice (some ⟨ga, 0, none⟩) k ca) (.slice (some ⟨gt2, 0, none⟩) nt2 ct2) E A T → wx.cell? ⟨ge, 0, none⟩ = some (.int .i64 ex0) ∧ wx.frozen? ⟨ge, 0, none⟩ = false) := fun wx d => (by rw [hex0]; exact CE.out wx d 0 (by omega))
          have p1 := C1.out w7 D7.out
          obtain ⟨p0, pf0⟩ := C0.out w7 D7.out
          clear hex1 hex0
          have q0 : (0 : Int) < (ne : Int) := by omega
          have q1 : (1 : Int) < (ne : Int) := by omega
          have q2 : 0 < ne := by omega
          have q3 : 1 < ne := by omega
          have D7d : Hid (DR r w w7.drew (.slice (some ⟨ge, 0, none⟩) ne ce) (.slice (some ⟨ga, 0, none⟩) k ca) (.slice (some ⟨gt2, 0, none⟩) nt2 ct2) E A T) := D7.out.drew
          have DL : Hid (DR r w (w7.alloc (.cells #[.int .i64 (-1000000), .int .i64 (-1000001), .int .i64 ex1] 2)).drew (.slice (some ⟨ge, 0, none⟩) ne ce) (.slice (some ⟨ga, 0, none⟩) k ca) (.slice (some ⟨gt2, 0, none⟩) nt2 ct2) E A T) := (D7.out.alloc _).drew
          clear D7
          go_upto_region 15 with fail
          go_region_with (go_at_call 12; first
            | (refine (below_all r _ DL.out.tr.rd 3 (by omega) (by omega)).mono ?_
               rintro e w8 ⟨⟨z, ⟨hz1', hz2'⟩, rfl⟩, kk, tt⟩
               replace hz2' : z < 3 := hz2'
               obtain ⟨q, cq⟩ := lit3 (-1000000) (-1000001) ex1 z (((Turn.refl r _).drewN 1).trans tt) n7 hz1' hz2'
               have D8 := DL.out.turn tt kk
               have DD : Hid (DR r w (w8.setCell ⟨ge, 0, none⟩ (.int .i64 q)) (.slice (some ⟨ge, 0, none⟩) ne ce) (.slice (some ⟨ga, 0, none⟩) k ca) (.slice (some ⟨gt2, 0, none⟩) nt2 ct2) (E.set 0 q) A T) := D8.sete (o := 0) HNE.out q
               obtain ⟨r0, rf0⟩ := C0.out w8 D8
               have r1 := C1.out w8 D8
               clear D8 kk tt)
            | (refine (below_all r _ D7d.out.tr.rd 3 (by omega) (by omega)).mono ?_
               rintro e w8 ⟨⟨z, ⟨hz1', hz2'⟩, rfl⟩, kk, tt⟩
               replace hz2' : z < 3 := hz2'
               have nw : r < w8.heap.size := kk.lt
               obtain ⟨q, cq⟩ := lit3 (-1000000) (-1000001) ex1 z (Turn.refl r (w8.alloc (.cells #[.int .i64 (-1000000), .int .i64 (-1000001), .int .i64 ex1] 2))) nw hz1' hz2'
               have D8 := D7d.out.turn tt kk
               have D9 := D8.alloc (.cells #[.int .i64 (-1000000), .int .i64 (-1000001), .int .i64 ex1] 2)
               have DD : Hid (DR r w ((w8.alloc (.cells #[.int .i64 (-1000000), .int .i64 (-1000001), .int .i64 ex1] 2)).setCell ⟨ge, 0, none⟩ (.int .i64 q)) (.slice (some ⟨ge, 0, none⟩) ne ce) (.slice (some ⟨ga, 0, none⟩) k ca) (.slice (some ⟨gt2, 0, none⟩) nt2 ct2) (E.set 0 q) A T) := D9.sete (o := 0) HNE.out q
               obtain ⟨r0, rf0⟩ := C0.out w8 D8
               have r1 := C1.out w8 D8
               obtain ⟨s0, sf0⟩ := C0.out _ D9
               clear D8 D9 kk tt nw))
          all_goals
            clear cq r0 rf0 r1
            have FF := DD.out.fin
            have HFF : Hid (_ ∧ _ ∧ _ ∧ _) := FF
            clear FF DD
            go_wp2_with fail
            exact bodyPost_ret (v := .tuple #[(.slice (some ⟨ge, 0, none⟩) ne ce), (.slice (some ⟨ga, 0, none⟩) k ca), (.slice (some ⟨gt2, 0, none⟩) nt2 ct2)]) (by simp [results, Try.results5, go_sem]) rfl ⟨_, _, _, (E.set 0 q), A, T, rfl, HFF.out.1, HFF.out.2.1, HFF.out.2.2.1, by have := HNE.out; simp; omega, by have := HAK.out; omega, by have := HT.out; omega, HFF.out.2.2.2⟩
        have y2 : y = 2 := by omega
        subst y2
        obtain ⟨tm, htm⟩ : ∃ tm : Nat, nt2 = tm + 1 := ⟨nt2 - 1, by omega⟩
        have f3 : IntKind.i64.wrap ((nt2 : Int) - 1) = (tm : Int) := by
          have : (nt2 : Int) - 1 = (tm : Int) := by omega
          rw [this]; exact IntWalk.i64_in _ (by omega)
        have f4 : (0 : Int) ≤ (tm : Int) := by omega
        have f5 : (tm : Int) < (nt2 : Int) := by omega
        have f6 : (0 : Int) < (nt2 : Int) := by omega
        have f7 : 0 < nt2 := by omega
        have f8 : tm < nt2 := by omega
        have f9 : (nt2 : Int) - 1 = (tm : Int) := by omega
        have f10 : IntKind.i64.wrap (tm : Int) = (tm : Int) := IntWalk.i64_in _ (by omega)
        clear htm
        · obtain ⟨ex1, hex1⟩ : ∃ x, x = T.getD 0 0 := ⟨_, rfl⟩
          obtain ⟨ex0, hex0⟩ : ∃ x, x = T.getD tm 0 := ⟨_, rfl⟩
          have C1 : Hid (∀ (wx : World), DR r w wx (.slice (some ⟨ge, 0, none⟩) ne ce) (.slice (some ⟨ga, 0, none⟩) k ca) (.slice (some ⟨gt2, 0, none⟩) nt2 ct2) E A T → wx.cell? ⟨gt2, 0, none⟩ = some (.int .i64 ex1)) := fun wx d => (by rw [hex1]; exact (CT.out wx d 0 (by omega)).1)
          have C0 : Hid (∀ (wx : World), DR r w wx (.slice (some ⟨ge, 0, none⟩) ne ce) (.slice (some ⟨ga, 0, none⟩) k ca) (.slice (some ⟨gt2, 0, none⟩) nt2 ct2) E A T → wx.cell? ⟨gt2, tm, none⟩ = some (.int .i64 ex0) ∧ wx.frozen? ⟨gt2, tm, none⟩ = false) := fun wx d => (by rw [hex0]; exact CT.out wx d tm (by omega))
          have p1 := C1.out w7 D7.out
          obtain ⟨p0, pf0⟩ := C0.out w7 D7.out
          clear hex1 hex0
          have D7d : Hid (DR r w w7.drew (.slice (some ⟨ge, 0, none⟩) ne ce) (.slice (some ⟨ga, 0, none⟩) k ca) (.slice (some ⟨gt2, 0, none⟩) nt2 ct2) E A T) := D7.out.drew
          have DL : Hid (DR r w (w7.alloc (.cells #[.int .i64 1000000, .int .i64 1000001, .int .i64 ex1] 2)).drew (.slice (some ⟨ge, 0, none⟩) ne ce) (.slice (some ⟨ga, 0, none⟩) k ca) (.slice (some ⟨gt2, 0, none⟩) nt2 ct2) E A T) := (D7.out.alloc _).drew
          clear D7
          go_upto_region 17 with fail
          go_region_with (go_at_call 12; first
            | (refine (below_all r _ DL.out.tr.rd 3 (by omega) (by omega)).mono ?_
               rintro e w8 ⟨⟨z, ⟨hz1', hz2'⟩, rfl⟩, kk, tt⟩
               replace hz2' : z < 3 := hz2'
               obtain ⟨q, cq⟩ := lit3 1000000 1000001 ex1 z (((Turn.refl r _).drewN 1).trans tt) n7 hz1' hz2'
               have D8 := DL.out.turn tt kk
               have DD : Hid (DR r w (w8.setCell ⟨gt2, tm, none⟩ (.int .i64 q)) (.slice (some ⟨ge, 0, none⟩) ne ce) (.slice (some ⟨ga, 0, none⟩) k ca) (.slice (some ⟨gt2, 0, none⟩) nt2 ct2) E A (T.set tm q)) := D8.sett (o := tm) HT.out q
               obtain ⟨r0, rf0⟩ := C0.out w8 D8
               have r1 := C1.out w8 D8
               clear D8 kk tt)
            | (refine (below_all r _ D7d.out.tr.rd 3 (by omega) (by omega)).mono ?_
               rintro e w8 ⟨⟨z, ⟨hz1', hz2'⟩, rfl⟩, kk, tt⟩
               replace hz2' : z < 3 := hz2'
               have nw : r < w8.heap.size := kk.lt
               obtain ⟨q, cq⟩ := lit3 1000000 1000001 ex1 z (Turn.refl r (w8.alloc (.cells #[.int .i64 1000000, .int .i64 1000001, .int .i64 ex1] 2))) nw hz1' hz2'
               have D8 := D7d.out.turn tt kk
               have D9 := D8.alloc (.cells #[.int .i64 1000000, .int .i64 1000001, .int .i64 ex1] 2)
               have DD : Hid (DR r w ((w8.alloc (.cells #[.int .i64 1000000, .int .i64 1000001, .int .i64 ex1] 2)).setCell ⟨gt2, tm, none⟩ (.int .i64 q)) (.slice (some ⟨ge, 0, none⟩) ne ce) (.slice (some ⟨ga, 0, none⟩) k ca) (.slice (some ⟨gt2, 0, none⟩) nt2 ct2) E A (T.set tm q)) := D9.sett (o := tm) HT.out q
               obtain ⟨r0, rf0⟩ := C0.out w8 D8
               have r1 := C1.out w8 D8
               obtain ⟨s0, sf0⟩ := C0.out _ D9
               clear D8 D9 kk tt nw))
          all_goals
            clear cq r0 rf0 r1
            have FF := DD.out.fin
            have HFF : Hid (_ ∧ _ ∧ _ ∧ _) := FF
            clear FF DD
            go_wp2_with fail
            exact bodyPost_ret (v := .tuple #[(.slice (some ⟨ge, 0, none⟩) ne ce), (.slice (some ⟨ga, 0, none⟩) k ca), (.slice (some ⟨gt2, 0, none⟩) nt2 ct2)]) (by simp [results, Try.results5, go_sem]) rfl ⟨_, _, _, E, A, (T.set tm q), rfl, HFF.out.1, HFF.out.2.1, HFF.out.2.2.1, by have := HNE.out; omega, by have := HAK.out; omega, by have := HT.out; simp; omega, HFF.out.2.2.2⟩
end Go.Proofs.Ytlcbahlplablmaa.Rm
