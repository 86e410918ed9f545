/- Two skies drawn of a code. -/
import Derived.Test.YtgfcimbhfbgnfaaDs
namespace Go.Proofs.Ytgfcimbhfbgnfaa.Sk
open Go.ChangeShapes Go.WideShapes Go.ChangeAt Go.RowKit
open Go.Proofs.Ytgfcimbhfbgnfaa.Al Go.Proofs.Ytgfcimbhfbgnfaa.Rd

theorem results_cells2 {P : Program} {fn : Func} {p q : Tmp} {ty : TypeId} (h : fn.results = #[.cell p ty, .cell q ty]) (tmps : Array Value) (w : World) (g g2 : Nat) (t t2 : TypeId) (cs ds : Array Value) (fr fr2 : Nat × Nat) (d : TypeDesc)
    (hp : tmps.getD p undef = .pointer (some ⟨g, 0, none⟩)) (hg : w.heap[g]? = some (.cells cs t fr)) (hq : tmps.getD q undef = .pointer (some ⟨g2, 0, none⟩)) (hg2 : w.heap[g2]? = some (.cells ds t2 fr2))
    (hu : P.underlying ty = some d) (hd : (match d with | .struct _ | .array _ _ => true | _ => false) = true) (hi : (P.info? ty).map (·.size) = some cs.size) (hi2 : (P.info? ty).map (·.size) = some ds.size) :
    (results fn tmps).run P w = .ok (.tuple #[.agg cs, .agg ds]) w := by
  have hp' : tmps[p]?.getD undef = .pointer (some ⟨g, 0, none⟩) := by simpa using hp
  have hq' : tmps[q]?.getD undef = .pointer (some ⟨g2, 0, none⟩) := by simpa using hq
  simp [results, h, hp', hq', asAddr, run_loadVar_row w g t ty cs fr d hg hu hd hi, run_loadVar_row w g2 t2 ty ds fr2 d hg2 hu hd hi2]

theorem SB.keepAll {w : World} {r : Nat} {d p v : Int} {W C : ByteArray} {b : Int} (h : SB w r d p v W C b) {r' : Nat} (hne : r ≠ r') (x0 x1 x2 x3 x4 x5 : Value) : SB ((((((w.setCell ⟨r', 0, none⟩ x0).setCell ⟨r', 1, none⟩ x1).setCell ⟨r', 2, none⟩ x2).setCell ⟨r', 3, none⟩ x3).setCell ⟨r', 4, none⟩ x4).setCell ⟨r', 5, none⟩ x5) r d p v W C b := (((((h.keep hne 0 x0).keep hne 1 x1).keep hne 2 x2).keep hne 3 x3).keep hne 4 x4).keep hne 5 x5
theorem SB.drw {w : World} {r : Nat} {d p v : Int} {W C : ByteArray} {b : Int} (h : SB w r d p v W C b) : SB w.drew r d p v W C b := h
/-- both answers and one sky or two -/
structure D2 (w : World) (wx : World) : Prop where
  a0 : SB wx w.heap.size 0 0 0 E E 0
  a1 : SB wx (w.heap.size + 1) 0 0 0 E E 0
  rd : Rd (w.heap.size + 2) wx
  bl : Below w.heap.size w wx
theorem D2.sz {w wx : World} (h : D2 w wx) : w.heap.size + 2 < wx.heap.size := h.rd.lt
theorem D2.turn {w wx w' : World} (h : D2 w wx) (t : Turn (w.heap.size + 2) wx w') (k : Rd (w.heap.size + 2) w') : D2 w w' :=
  ⟨h.a0.turn t (by omega), h.a1.turn t (by omega), k, h.bl.trans (t.bel.mono (by omega))⟩
theorem D2.alloc {w wx : World} (h : D2 w wx) (o : Obj) : D2 w (wx.alloc o) :=
  have hs := h.sz
  ⟨h.a0.on ((Below.refl _ _).alloc (Nat.le_refl _) o) (by omega), h.a1.on ((Below.refl _ _).alloc (Nat.le_refl _) o) (by omega), h.rd.kept ((Below.refl (w.heap.size + 2 + 1) wx).alloc (by omega) _) (by omega), h.bl.alloc (by omega) _⟩
theorem D2.st {w wx : World} (h : D2 w wx) {s : Nat} (hs : w.heap.size + 2 < s) (o : Nat) (x : Value) : D2 w (wx.setCell ⟨s, o, none⟩ x) :=
  ⟨h.a0.keep (by omega) _ _, h.a1.keep (by omega) _ _, h.rd.kept ((Below.refl (w.heap.size + 2 + 1) wx).setCell (p := ⟨s, o, none⟩) (by show w.heap.size + 2 + 1 ≤ s; omega) _) (by omega), h.bl.setCell (p := ⟨s, o, none⟩) (by show w.heap.size ≤ s; omega) _⟩

set_option maxRecDepth 20000 in
set_option maxHeartbeats 4000000 in
theorem dlaid_any (a : Option Addr) (n0 cap : Nat) (w : World) (hc : Go.Proofs.Ytgfcimbhfbgnfaa.Rd.Code w a n0 cap) (hn0 : n0 ≤ 1048576) : Calls Try.prog 5 #[.slice a n0 cap] w fun e w' => (∃ d p v W C b d2 p2 v2 W2 C2 b2, e = .returned (.tuple #[sk d p v W C b, sk d2 p2 v2 W2 C2 b2])) ∧ Below w.heap.size w w' := by
  obtain ⟨wb, hwb⟩ : ∃ wb, wb = (w.alloc (.cells #[.int .i64 0, .int .i64 0, .int .i64 0, .string E, .string E, .int .i64 0] 25)).alloc (.cells #[.int .i64 0, .int .i64 0, .int .i64 0, .string E, .string E, .int .i64 0] 25) := ⟨_, rfl⟩
  have HW : Hid (wb = (w.alloc (.cells #[.int .i64 0, .int .i64 0, .int .i64 0, .string E, .string E, .int .i64 0] 25)).alloc (.cells #[.int .i64 0, .int .i64 0, .int .i64 0, .string E, .string E, .int .i64 0] 25)) := hwb
  have zb : wb.heap.size = w.heap.size + 2 := by rw [hwb]; simp
  have bb : Below w.heap.size w wb := by rw [hwb]; exact ((Below.refl _ _).alloc (Nat.le_refl _) _).alloc (by simp) _
  have O : Hid (Calls Try.prog 10 #[.slice a n0 cap] wb fun e w' => e = .returned (.pointer (some ⟨w.heap.size + 2, 0, none⟩)) ∧ w' = wb.alloc (.cells #[.slice a n0 cap, .int .i64 0] 39)) := (by have := open_any _ a n0 cap rfl wb; rw [zb] at this; exact this)
  have D0 : Hid (D2 w (wb.alloc (.cells #[.slice a n0 cap, .int .i64 0] 39))) := (by
    have hR : Rd wb.heap.size (wb.alloc (.cells #[.slice a n0 cap, .int .i64 0] 39)) := Rd.new hc hn0 bb
    rw [zb] at hR
    have s0 : SB wb w.heap.size 0 0 0 E E 0 := by rw [hwb]; exact (SB.new w 0 0 0 E E 0).on ((Below.refl _ _).alloc (Nat.le_refl _) _) (by simp)
    have s1 : SB wb (w.heap.size + 1) 0 0 0 E E 0 := by
      rw [hwb]
      have := SB.new (w.alloc (.cells #[.int .i64 0, .int .i64 0, .int .i64 0, .string E, .string E, .int .i64 0] 25)) 0 0 0 E E 0
      simpa using this
    exact ⟨s0.on ((Below.refl _ _).alloc (Nat.le_refl _) _) (by omega), s1.on ((Below.refl _ _).alloc (Nat.le_refl _) _) (by omega), hR, bb.alloc (by omega) _⟩)
  clear hwb bb hc hn0 zb
  go_enter Try.func5, Try.ntmps5
  go_wp2_with fail
  rw [← HW.out]
  refine O.out.mono ?_
  rintro e w1 ⟨rfl, hw⟩
  rw [← hw] at D0
  clear hw O HW
  go_wp2_with fail
  refine (once_any _ _ D0.out.rd 3 (by omega) (by omega)).mono ?_
  rintro e w2 ⟨⟨u, rfl⟩, k2, t2⟩
  have D1 : Hid (D2 w w2) := D0.out.turn t2 k2
  clear D0 k2 t2
  go_wp2_with fail
  refine (dsky_any _ _ _ D1.out.rd).mono ?_
  rintro e w3 ⟨⟨d, p, v, W, C, b, rfl⟩, k2, t2⟩
  have D3 : Hid (D2 w w3) := D1.out.turn t2 k2
  clear D1 k2 t2
  have A3 : Hid (SB (w3.alloc (.cells #[.int .i64 d, .int .i64 p, .int .i64 v, .string W, .string C, .int .i64 b] 25)) w3.heap.size d p v W C b) := SB.new _ _ _ _ _ _ _
  have D4 : Hid (D2 w (w3.alloc (.cells #[.int .i64 d, .int .i64 p, .int .i64 v, .string W, .string C, .int .i64 b] 25))) := D3.out.alloc _
  have z3 : Hid (w.heap.size + 2 < w3.heap.size) := D3.out.sz
  clear D3
  go_wp2_with fail
  refine (once_any _ _ D4.out.rd 5 (by omega) (by omega)).mono ?_
  rintro e w4 ⟨⟨u2, rfl⟩, k2, t2⟩
  have D5 : Hid (D2 w w4) := D4.out.turn t2 k2
  have A5 : Hid (SB w4 w3.heap.size d p v W C b) := A3.out.turn t2 (by have := z3.out; omega)
  clear D4 A3 k2 t2
  go_wp2_with fail
  refine (dsky_any _ _ _ D5.out.rd).mono ?_
  rintro e w5 ⟨⟨d2, p2, v2, W2, C2, b2, rfl⟩, k2, t2⟩
  have D6 : Hid (D2 w w5) := D5.out.turn t2 k2
  have A6 : Hid (SB w5 w3.heap.size d p v W C b) := A5.out.turn t2 (by have := z3.out; omega)
  clear D5 A5 k2 t2
  have B7 : Hid (SB (w5.alloc (.cells #[.int .i64 d2, .int .i64 p2, .int .i64 v2, .string W2, .string C2, .int .i64 b2] 25)) w5.heap.size d2 p2 v2 W2 C2 b2) := SB.new _ _ _ _ _ _ _
  have A7 : Hid (SB (w5.alloc (.cells #[.int .i64 d2, .int .i64 p2, .int .i64 v2, .string W2, .string C2, .int .i64 b2] 25)) w3.heap.size d p v W C b) := A6.out.on ((Below.refl _ _).alloc (Nat.le_refl _) _) A6.out.lt
  have D7 : Hid (D2 w (w5.alloc (.cells #[.int .i64 d2, .int .i64 p2, .int .i64 v2, .string W2, .string C2, .int .i64 b2] 25))) := D6.out.alloc _
  have z5 : Hid (w3.heap.size < w5.heap.size) := A6.out.lt
  clear D6 A6
  go_wp2_with fail
  refine (once_any _ _ D7.out.rd 9 (by omega) (by omega)).mono ?_
  rintro e w6 ⟨⟨u3, rfl⟩, k2, t2⟩
  have D8 : Hid (D2 w w6) := D7.out.turn t2 k2
  have A8 : Hid (SB w6 w3.heap.size d p v W C b) := A7.out.turn t2 (by have := z3.out; omega)
  have B8 : Hid (SB w6 w5.heap.size d2 p2 v2 W2 C2 b2) := B7.out.turn t2 (by have := z3.out; have := z5.out; omega)
  clear D7 A7 B7 k2 t2
  generalize w3.heap.size = s at *
  generalize w5.heap.size = s2 at *
  go_upto_if 19 with fail
  go_cut [] (fun wx => ∃ v' : Int, Hid (D2 w wx ∧ SB wx s d p v W C b ∧ SB wx s2 d2 p2 v' W2 C2 b2))
  case first =>
    cases u3
    · go_wp2_with fail
      go_meet
      exact ⟨v2, ⟨D8.out, A8.out, B8.out⟩⟩
    · obtain ⟨c0, c1, c2, c3, c4, c5, c6⟩ := B8.out.cells
      have f2 := c6 2
      clear c6
      have Z := z5.out
      have Z3 := z3.out
      have SX : Hid (D2 w (w6.setCell ⟨s2, 2, none⟩ (.int .i64 10000)) ∧ SB (w6.setCell ⟨s2, 2, none⟩ (.int .i64 10000)) s d p v W C b ∧ SB (w6.setCell ⟨s2, 2, none⟩ (.int .i64 10000)) s2 d2 p2 10000 W2 C2 b2) := ⟨D8.out.st (by omega) _ _, A8.out.keep (by omega) _ _, B8.out.s2 _⟩
      go_wp2_with fail
      go_meet
      exact ⟨10000, SX⟩
  case rest =>
    obtain ⟨v8, hq⟩ : ∃ q : World, q = wc := ⟨_, rfl⟩
    subst hq
    obtain ⟨v', X⟩ := hcut
    clear D8 A8 B8
    have Z := z5.out
    have Z3 := z3.out
    clear z5 z3
    have n0 : ¬ s = w.heap.size := by omega
    have n1 : ¬ s = w.heap.size + 1 := by omega
    have n2 : ¬ s2 = w.heap.size := by omega
    have n3 : ¬ s2 = w.heap.size + 1 := by omega
    have n4 : ¬ w.heap.size = s := by omega
    have n5 : ¬ w.heap.size + 1 = s := by omega
    have n6 : ¬ w.heap.size = s2 := by omega
    have n7 : ¬ w.heap.size + 1 = s2 := by omega
    obtain ⟨c0, c1, c2, c3, c4, c5, _⟩ := X.out.2.1.cells
    obtain ⟨e0, e1, e2, e3, e4, e5, _⟩ := X.out.2.2.cells
    obtain ⟨r0, r1, r2, r3, r4, r5, r6⟩ := X.out.1.a0.cells
    obtain ⟨q0, q1, q2, q3, q4, q5, q6⟩ := X.out.1.a1.cells
    have f0 := r6 0
    have f1 := r6 1
    have f2 := r6 2
    have f3 := r6 3
    have f4 := r6 4
    have f5 := r6 5
    have g0 := q6 0
    have g1 := q6 1
    have g2 := q6 2
    have g3 := q6 3
    have g4 := q6 4
    have g5 := q6 5
    clear r6 q6
    go_wp2_with fail
    go_region
    have F1 := X.out.1.a0.all d p v W C b
    have F2 := X.out.1.a1.keepAll (r' := w.heap.size) (by omega) (.int .i64 d) (.int .i64 p) (.int .i64 v) (.string W) (.string C) (.int .i64 b)
    have G1 := F1.keepAll (r' := w.heap.size + 1) (by omega) (.int .i64 d2) (.int .i64 p2) (.int .i64 v') (.string W2) (.string C2) (.int .i64 b2)
    have G2 := F2.all d2 p2 v' W2 C2 b2
    have BB := below_all (below_all X.out.1.bl (Nat.le_refl _) (.int .i64 d) (.int .i64 p) (.int .i64 v) (.string W) (.string C) (.int .i64 b)) (Nat.le_add_right _ 1) (.int .i64 d2) (.int .i64 p2) (.int .i64 v') (.string W2) (.string C2) (.int .i64 b2)
    clear c0 c1 c2 c3 c4 c5 e0 e1 e2 e3 e4 e5 r0 r1 r2 r3 r4 r5 q0 q1 q2 q3 q4 q5 f0 f1 f2 f3 f4 f5 g0 g1 g2 g3 g4 g5 F1 F2
    go_wp2_with fail
    have H1 := G1.drw
    have H2 := G2.drw
    have B1 := BB.drew
    obtain ⟨wf, hwf⟩ : ∃ wf, wf = ((((((((((((v8.setCell ⟨w.heap.size, 0, none⟩ (.int .i64 d)).setCell ⟨w.heap.size, 1, none⟩ (.int .i64 p)).setCell ⟨w.heap.size, 2, none⟩ (.int .i64 v)).setCell ⟨w.heap.size, 3, none⟩ (.string W)).setCell ⟨w.heap.size, 4, none⟩ (.string C)).setCell ⟨w.heap.size, 5, none⟩ (.int .i64 b)).setCell ⟨w.heap.size + 1, 0, none⟩ (.int .i64 d2)).setCell ⟨w.heap.size + 1, 1, none⟩ (.int .i64 p2)).setCell ⟨w.heap.size + 1, 2, none⟩ (.int .i64 v')).setCell ⟨w.heap.size + 1, 3, none⟩ (.string W2)).setCell ⟨w.heap.size + 1, 4, none⟩ (.string C2)).setCell ⟨w.heap.size + 1, 5, none⟩ (.int .i64 b2)).drew := ⟨_, rfl⟩
    rw [← hwf] at H1 H2 B1 ⊢
    clear G1 G2 BB hwf X
    exact bodyPost_ret (v := .tuple #[sk d p v W C b, sk d2 p2 v' W2 C2 b2]) (results_cells2 Try.results5 _ _ w.heap.size (w.heap.size + 1) 25 25 _ _ (0, 0) (0, 0) _ rfl H1 rfl H2 Try.underlying25 rfl size26 size26) rfl ⟨⟨_, _, _, _, _, _, _, _, _, _, _, _, rfl⟩, B1⟩
end Go.Proofs.Ytgfcimbhfbgnfaa.Sk
