/- FnExactDescend's walk; what model and program answer comes in as hypotheses. -/
import Derived.Test.YtaakiemmodncpaaMk
namespace Go.Proofs.Ytaakiemmodncpaa.LawDs
open Go.ChangeShapes Go.WideShapes Go.ChangeAt Go.RowKit
open Go.Proofs.Ytaakiemmodncpaa.Lists
open Go.Proofs.Ytaakiemmodncpaa.LawCsL (PR PR.on below_drewN)
theorem row_keep {w w' : World} {base n k : Nat} {e : TypeId} {v : Value} {xs : List Value} (h : w.ownsRow base e k v n xs) (hk : ∀ g, v.ownBlock = some g → w'.heap[g]? = w.heap[g]?) : w'.ownsRow base e k v n xs := by
  refine ⟨h.1, ?_⟩
  rcases h.2 with h2 | ⟨g, cap, cur, h1, h2, h3, h4⟩
  · exact .inl h2
  · exact .inr ⟨g, cap, cur, h1, h2, (hk g (by rw [h1]; rfl)).trans h3, h4⟩
theorem mrow_keep {w w' : World} {base : Nat} {v : Value} {L : Mo.Ls} (h : Mo.Row w base v L) (hk : ∀ g, v.ownBlock = some g → w'.heap[g]? = w.heap[g]?) : Mo.Row w' base v L := by
  obtain ⟨xs, h1, h2⟩ := h
  exact ⟨xs, row_keep h1 hk, h2⟩
set_option maxRecDepth 20000 in
set_option maxHeartbeats 4000000 in
theorem descLaw (w : World) (n : Int) (vg : Value) (G : List Int) (hG : Lists.Reads w vg G) (fG : G.length < 9223372036854775808) (vt : Value) (T : List Int) (hT : Lists.Reads w vt T) (fT : T.length < 9223372036854775808) (vr : Value) (R : Rw.Ls) (hR : Rw.Reads w vr R) (vx : Value) (X : List Int) (hX : Lists.Reads w vx X) (fX : X.length < 9223372036854775808) (most : Int) (q : Bool) (L : Mo.Ls) (hL : L.length ≤ 1000)
    (SA : ∀ (w : World) (g t r' x : Value), PR w G T R g t r' → Lists.Reads w x X → Calls Try.prog 6 #[Pb.pv n g t r', x, .int .i64 most] w fun e w' => ∃ u, e = .returned (.tuple #[u, .bool q]) ∧ Mo.Row w' w.heap.size u L ∧ Below w.heap.size w w')
    (IA : ∀ (w : World) (g t r' x : Value), PR w G T R g t r' → Lists.Reads w x X → Calls Try.prog 9 #[Pb.pv n g t r', x, .int .i64 most] w fun e w' => ∃ u, e = .returned (.tuple #[u, .bool q]) ∧ Mo.Row w' w.heap.size u L ∧ Below w.heap.size w w') :
    Calls Try.prog 3 #[Pb.pv n vg vt vr, vx, .int .i64 most] w fun e w' => e = .returned (.bool true) ∧ Below w.heap.size w w' := by
  obtain ⟨sg, cg, eg⟩ := hG.form
  obtain ⟨st, ct, et⟩ := hT.form
  obtain ⟨sr, cr, er⟩ := hR.form
  subst eg et er
  obtain ⟨sx, cx, ex⟩ := hX.form
  subst ex
  obtain ⟨w0, hw0⟩ : ∃ w0, w0 = w.alloc (Obj.cells #[.int .i64 n, .slice sg G.length cg, .slice st T.length ct, .slice sr R.length cr] 25) := ⟨_, rfl⟩
  have HW0 : Hid (w0 = w.alloc (Obj.cells #[.int .i64 n, .slice sg G.length cg, .slice st T.length ct, .slice sr R.length cr] 25)) := hw0
  have B0 : Hid (Below w.heap.size w w0) := (by show Below _ _ _; rw [hw0]; exact (Below.refl _ _).alloc (Nat.le_refl _) _)
  have Z0 : Hid (w0.heap.size = w.heap.size + 1) := (by show _ = _; rw [hw0]; simp)
  have K0 : Hid (Pb.Box w0 w.heap.size (.int .i64 n) (.slice sg G.length cg) (.slice st T.length ct) (.slice sr R.length cr)) := (by show Pb.Box _ _ _ _ _ _; rw [hw0]; unfold Pb.Box; simp [go_sem])
  have HB : Hid (∀ w', Below w0.heap.size w0 w' → Below w.heap.size w w') := fun w' hb => B0.out.trans (hb.mono B0.out.size)
  have HK : Hid (∀ w', Below w0.heap.size w0 w' → Pb.Box w' w.heap.size (.int .i64 n) (.slice sg G.length cg) (.slice st T.length ct) (.slice sr R.length cr)) := fun w' hb => K0.out.on hb (by have := Z0.out; omega)
  have SZ : Hid (Calls Try.prog 5 #[Pb.pv n (.slice sg G.length cg) (.slice st T.length ct) (.slice sr R.length cr), .int .i64 1048576] w0 fun e w'' => (∃ r : Int, e = .returned (.int .i64 r) ∧ (0 ≤ r → G.length ≤ 1048576 ∧ T.length ≤ 1048576 ∧ R.length ≤ 1048576 ∧ ∀ i, i < R.length → (Rw.cl R i).length ≤ 1048576) ∧ r ≤ 1048576) ∧ Below w0.heap.size w0 w'') := Pb.sz_any n sg G.length cg st T.length ct _ R 1048576 w0 (by omega) (by omega) fG fT (hR.on B0.out)
  have TO : Hid ((G.length ≤ 1048576 ∧ T.length ≤ 1048576 ∧ R.length ≤ 1048576 ∧ ∀ i, i < R.length → (Rw.cl R i).length ≤ 1048576) → ∀ w', Below w0.heap.size w0 w' → Calls Try.prog 7 #[Pb.pv n (.slice sg G.length cg) (.slice st T.length ct) (.slice sr R.length cr)] w' fun e w'' => ∃ g t r', e = .returned (Pb.pv n g t r') ∧ w''.ownsRow w'.heap.size 2 1 g G.length (ints G) ∧ w''.ownsRow w'.heap.size 2 1 t T.length (ints T) ∧ Rw.Row w'' w'.heap.size r' R ∧ Below w'.heap.size w' w'') := fun hl w' hb => Pb.to_any n G T R _ _ _ w' (hG.on (HB.out w' hb)) (hT.on (HB.out w' hb)) (hR.on (HB.out w' hb)) hl.1 hl.2.1 hl.2.2.1 hl.2.2.2
  have PO : Hid (∀ w' g t r' B, w'.ownsRow B 2 1 g G.length (ints G) → w'.ownsRow B 2 1 t T.length (ints T) → Rw.Row w' B r' R → PR w' G T R g t r') := fun w' g t r' B h1 h2 h3 => ⟨Lists.reads_row h1, Lists.reads_row h2, h3.reads⟩
  have EQ : Hid (∀ w' g t r' g2 t2 r2, PR w' G T R g t r' → PR w' G T R g2 t2 r2 → Calls Try.prog 11 #[Pb.pv n g t r', Pb.pv n g2 t2 r2] w' fun e w'' => e = .returned (.bool true) ∧ Below w'.heap.size w' w'') := fun w' g t r' g2 t2 r2 h h' => Pb.eq_any n G T R g g2 t t2 r' r2 w' h.1 h'.1 h.2.1 h'.2.1 h.2.2 h'.2.2
  have MA : Hid ((G.length ≤ 1048576 ∧ T.length ≤ 1048576 ∧ R.length ≤ 1048576 ∧ ∀ i, i < R.length → (Rw.cl R i).length ≤ 1048576) → ∀ (wx w' : World) (B : Nat) (g t r' : Value), Below wx.heap.size wx w' → wx.ownsRow B 2 1 g G.length (ints G) → wx.ownsRow B 2 1 t T.length (ints T) → Rw.Row wx B r' R → B ≤ wx.heap.size → Calls Try.prog 13 #[Pb.pv n g t r', .int .i64 1] w' fun e w'' => (∃ k : Int, 0 ≤ k ∧ k ≤ 4611686018427387904 ∧ e = .returned (.int .i64 k)) ∧ Below B w' w'' ∧ ∀ k, wx.heap.size ≤ k → k < w'.heap.size → w''.heap[k]? = w'.heap[k]?) := fun hl wx w' B g t r' hb h1 h2 h3 h4 => Mk.markA wx w' B n G T R g t r' hb h1 h2 h3 hl.1 hl.2.1 hl.2.2.1 hl.2.2.2 h4
  have SU : Hid (∀ (w : World) (g t r' x : Value), PR w G T R g t r' → Lists.Reads w x X → Calls Try.prog 6 #[Pb.pv n g t r', x, .int .i64 most] w fun e w' => ∃ u, e = .returned (.tuple #[u, .bool q]) ∧ Mo.Row w' w.heap.size u L ∧ Below w.heap.size w w') := SA
  have IU : Hid (∀ (w : World) (g t r' x : Value), PR w G T R g t r' → Lists.Reads w x X → Calls Try.prog 9 #[Pb.pv n g t r', x, .int .i64 most] w fun e w' => ∃ u, e = .returned (.tuple #[u, .bool q]) ∧ Mo.Row w' w.heap.size u L ∧ Below w.heap.size w w') := IA
  have EM : Hid (∀ (w' : World) (u v : Value) (B C : Nat), Mo.Row w' B u L → Mo.Row w' C v L → Calls Try.prog 10 #[u, v] w' fun e w'' => e = .returned (.bool true) ∧ Below w'.heap.size w' w'') := fun w' u v B C h h' => Mo.eq_same w' u v L h.reads h'.reads
  have MM : Hid (∀ (w' : World) (u : Value) (B : Nat), Mo.Row w' B u L → Calls Try.prog 15 #[u, .int .i64 1] w' fun e w'' => e = .returned (.int .i64 (1 + (L.length : Int) * 3)) ∧ Mo.Row w'' B u (Mo.mks L.length) ∧ w'.grownBy w'' u.ownBlock) := fun w' u B h => by
    obtain ⟨xs, h1, h2⟩ := h
    exact Mo.mark_any w' B L.length u xs (by omega) h1
  have HM : Hid (∀ (w' : World) (u : Value) (B : Nat), Mo.Row w' B u (Mo.mks L.length) → Calls Try.prog 16 #[u, .int .i64 1] w' fun e w'' => e = .returned (.int .i64 (1 + (L.length : Int) * 3)) ∧ ∃ m, w'' = w'.drewN m) := fun w' u B h => Mo.held_any w' u L.length (by omega) h.reads
  have FL : Hid (L.length ≤ 1000) := hL
  have hqq : (q != q) = false := by cases q <;> rfl
  have hll : ((1 + (L.length : Int) * 3) != (1 + (L.length : Int) * 3)) = false := by simp
  have hl0 : ¬ (1 + (L.length : Int) * 3) < 0 := by omega
  have HX : Hid (Lists.Reads w (.slice sx X.length cx) X) := hX
  by_cases gX : 1048576 < X.length
  · have i1 : (1048576 : Int) < (X.length : Int) := by omega
    clear SA IA hG hT hR hX hw0
    generalize G.length = lg at *
    generalize T.length = lt at *
    generalize R.length = lr at *
    go_enter Try.func3, Try.ntmps3
    go_wp2_with fail
    rw [← HW0.out]
    go_ret
    exact ⟨rfl, B0.out⟩
  have jX : ¬ (1048576 : Int) < (X.length : Int) := by omega
  have LX : Hid (X.length ≤ 1048576) := (by show _ ≤ _; omega)
  have TX : Hid (∀ w', Below w0.heap.size w0 w' → Calls Try.prog 8 #[.slice sx X.length cx] w' fun e w'' => ∃ u c, e = .returned (.slice u X.length c) ∧ w''.ownsRow w'.heap.size 2 1 (.slice u X.length c) X.length (ints X) ∧ Below w'.heap.size w' w'') := fun w' hb => (Lists.to_any w' _ X (hX.on (HB.out w' hb)) (by omega)).mono (by rintro e w'' ⟨rfl, h1, h2⟩; exact ⟨_, _, rfl, h1, h2⟩)
  have XR : Hid (∀ (w' : World) (B : Nat) (v : Value), w'.ownsRow B 2 1 v X.length (ints X) → Lists.Reads w' v X) := fun w' B v h => Lists.reads_row h
  have EX : Hid (∀ w' u v, Lists.Reads w' u X → Lists.Reads w' v X → Calls Try.prog 12 #[u, v] w' fun e w'' => e = .returned (.bool true) ∧ ∃ m, w'' = w'.drewN m) := fun w' u v h h' => Rw.eq_reads w' u v X h h'
  have MX : Hid (∀ (w' : World) (B : Nat) (v : Value) (k : Int), 0 ≤ k → k ≤ 4611686018427387904 → w'.ownsRow B 2 1 v X.length (ints X) → Calls Try.prog 14 #[v, .int .i64 k] w' fun e w'' => (∃ z : Int, e = .returned (.int .i64 z) ∧ ¬ z < 0) ∧ Mk.KB (fun b => v.ownBlock = some b) w' w'') := fun w' B v k k0 k1 h => (Mk.markP w' B X.length v k (fun x => Mk.KB (fun b => v.ownBlock = some b) w' x) k0 k1 (by omega) ⟨X, rfl, h⟩ (fun x g o z hg _ hx => hx.set g o _ hg) (Mk.KB.refl _ _)).mono (by rintro e w'' ⟨rfl, _, h3⟩; exact ⟨⟨_, rfl, by omega⟩, h3⟩)
  clear hX gX fX hL
  clear SA IA hG hT hR hw0 fG fT
  generalize hlg : G.length = lg at *
  generalize hlt : T.length = lt at *
  generalize hlr : R.length = lr at *
  clear hlg hlt hlr
  generalize hlx : X.length = lx at *
  clear hlx
  generalize hkk : 1 + (L.length : Int) * 3 = kk at *
  generalize hMK : Mo.mks L.length = MK at *
  clear hkk hMK
  go_enter Try.func3, Try.ntmps3
  obtain ⟨k0, k1, k2, k3⟩ := K0.out
  go_wp2_with fail
  rw [← HW0.out]
  refine (Calls.mono SZ.out) ?_
  rintro e w1 ⟨⟨z, rfl, y, l⟩, b⟩
  clear k0 k1 k2 k3
  have B1 : Hid (Below w0.heap.size w0 w1) := b
  clear b HW0
  by_cases hneg : z < 0
  · go_wp2_with fail
    go_ret
    exact ⟨rfl, HB.out w1 B1.out⟩
  have HL := y (by omega)
  have TP := TO.out HL
  have TPH : Hid (∀ w', Below w0.heap.size w0 w' → Calls Try.prog 7 #[Pb.pv n (.slice sg lg cg) (.slice st lt ct) (.slice sr lr cr)] w' fun e w'' => ∃ g t r', e = .returned (Pb.pv n g t r') ∧ w''.ownsRow w'.heap.size 2 1 g lg (ints G) ∧ w''.ownsRow w'.heap.size 2 1 t lt (ints T) ∧ Rw.Row w'' w'.heap.size r' R ∧ Below w'.heap.size w' w'') := TP
  have MAH : Hid (∀ (wx w' : World) (B : Nat) (g t r' : Value), Below wx.heap.size wx w' → wx.ownsRow B 2 1 g lg (ints G) → wx.ownsRow B 2 1 t lt (ints T) → Rw.Row wx B r' R → B ≤ wx.heap.size → Calls Try.prog 13 #[Pb.pv n g t r', .int .i64 1] w' fun e w'' => (∃ k : Int, 0 ≤ k ∧ k ≤ 4611686018427387904 ∧ e = .returned (.int .i64 k)) ∧ Below B w' w'' ∧ ∀ k, wx.heap.size ≤ k → k < w'.heap.size → w''.heap[k]? = w'.heap[k]?) := MA.out HL
  clear TO y HL TP MA
  obtain ⟨k0, k1, k2, k3⟩ := HK.out w1 B1.out
  go_wp2_with fail
  refine (TPH.out w1 B1.out).mono ?_
  rintro e w2 ⟨g2, t2, r2, rfl, p1, p2, p3, b⟩
  clear k0 k1 k2 k3
  have B2 : Hid (Below w0.heap.size w0 w2) := B1.out.trans (b.mono B1.out.size)
  have P2 : Hid (PR w2 G T R g2 t2 r2) := PO.out w2 g2 t2 r2 _ p1 p2 p3
  clear b p1 p2 p3
  go_wp2_with fail
  refine (TX.out w2 B2.out).mono ?_
  rintro e w3 ⟨u3, c3, rfl, p3, b⟩
  have B3 : Hid (Below w0.heap.size w0 w3) := B2.out.trans (b.mono B2.out.size)
  have P3 : Hid (PR w3 G T R g2 t2 r2) := P2.out.on b
  have X3 : Hid (Lists.Reads w3 (.slice u3 lx c3) X) := XR.out w3 _ _ p3
  clear b p3
  go_wp2_with fail
  refine (SU.out w3 g2 t2 r2 _ P3.out X3.out).mono ?_
  rintro e w4 ⟨us, rfl, rr, b⟩
  have B4 : Hid (Below w0.heap.size w0 w4) := B3.out.trans (b.mono B3.out.size)
  have S4 : Hid (Mo.Row w4 w3.heap.size us L) := rr
  have US : Hid (∀ g, us.ownBlock = some g → g < w4.heap.size) := fun g hg => (rr.lt g hg).2
  clear b rr P2 P3 X3
  obtain ⟨k0, k1, k2, k3⟩ := HK.out w4 B4.out
  go_wp2_with fail
  refine (TPH.out w4 B4.out).mono ?_
  rintro e w5 ⟨g5, t5, r5, rfl, p1, p2, p3, b⟩
  clear k0 k1 k2 k3
  have Z45 : Hid (w4.heap.size ≤ w5.heap.size) := b.size
  have B5 : Hid (Below w0.heap.size w0 w5) := B4.out.trans (b.mono B4.out.size)
  have S5 : Hid (Mo.Row w5 w3.heap.size us L) := S4.out.on b
  have OW : Hid (w5.ownsRow w4.heap.size 2 1 g5 lg (ints G) ∧ w5.ownsRow w4.heap.size 2 1 t5 lt (ints T) ∧ Rw.Row w5 w4.heap.size r5 R) := ⟨p1, p2, p3⟩
  have P5 : Hid (PR w5 G T R g5 t5 r5) := PO.out w5 g5 t5 r5 _ p1 p2 p3
  obtain ⟨w6, hw6⟩ : ∃ x, x = w5.alloc (Obj.cells #[.int .i64 n, g5, t5, r5] 32) := ⟨_, rfl⟩
  have HW6 : Hid (w6 = w5.alloc (Obj.cells #[.int .i64 n, g5, t5, r5] 32)) := hw6
  have b6 : Below w5.heap.size w5 w6 := (by rw [hw6]; exact (Below.refl _ _).alloc (Nat.le_refl _) _)
  have z6 : w6.heap.size = w5.heap.size + 1 := by rw [hw6]; simp
  have B6 : Hid (Below w0.heap.size w0 w6) := B5.out.trans (b6.mono B5.out.size)
  have S6 : Hid (Mo.Row w6 w3.heap.size us L) := S5.out.on b6
  have J6 : Pb.Box w6 w5.heap.size (.int .i64 n) g5 t5 r5 := (by rw [hw6]; unfold Pb.Box; simp [go_sem])
  have HJ : Hid (∀ w', Below w6.heap.size w6 w' → Pb.Box w' w5.heap.size (.int .i64 n) g5 t5 r5) := fun w' hb => J6.on hb (by omega)
  have Z56 : Hid (w5.heap.size < w6.heap.size) := (by show _ < _; omega)
  have D6 : Hid (∀ w', Below w6.heap.size w6 w' → Below w5.heap.size w5 w') := fun w' hb => b6.trans (hb.mono (by omega))
  have P6 : Hid (∀ w', Below w6.heap.size w6 w' → PR w' G T R g5 t5 r5) := fun w' hb => P5.out.on (b6.trans (hb.mono (by omega)))
  obtain ⟨ag, dg, eg⟩ := P5.out.1.form
  obtain ⟨at', dt, et⟩ := P5.out.2.1.form
  obtain ⟨ar, dr, er⟩ := P5.out.2.2.form
  subst eg et er
  generalize G.length = ng at *
  generalize T.length = nt at *
  generalize R.length = nr at *
  have E6 : Hid (Below w6.heap.size w6 w6) := Below.refl _ _
  clear hw6 b6 b p1 p2 p3 z6 J6
  go_wp2_with fail
  rw [← HW6.out]
  clear HW6
  refine (TX.out w6 B6.out).mono ?_
  rintro e w7 ⟨u7, c7, rfl, p7, b⟩
  have B7 : Hid (Below w0.heap.size w0 w7) := B6.out.trans (b.mono B6.out.size)
  have E7 : Hid (Below w6.heap.size w6 w7) := b
  have S7 : Hid (Mo.Row w7 w3.heap.size us L) := S6.out.on b
  have X7 : Hid (w7.ownsRow w6.heap.size 2 1 (.slice u7 lx c7) lx (ints X)) := p7
  have UX : Hid (∀ g, (Value.slice u7 lx c7).ownBlock = some g → w6.heap.size ≤ g ∧ g < w7.heap.size) := fun g hg => p7.lt g hg
  have Z67 : Hid (w6.heap.size ≤ w7.heap.size) := b.size
  clear b p7
  obtain ⟨j0, j1, j2, j3⟩ := HJ.out w7 E7.out
  go_wp2_with fail
  refine (IU.out w7 _ _ _ _ (P6.out w7 E7.out) (XR.out w7 _ _ X7.out)).mono ?_
  rintro e w8 ⟨ug, rfl, rr, b⟩
  clear j0 j1 j2 j3
  have B8 : Hid (Below w0.heap.size w0 w8) := B7.out.trans (b.mono B7.out.size)
  have E8 : Hid (Below w6.heap.size w6 w8) := E7.out.trans (b.mono E7.out.size)
  have S8 : Hid (Mo.Row w8 w3.heap.size us L) := S7.out.on b
  have X8 : Hid (w8.ownsRow w6.heap.size 2 1 (.slice u7 lx c7) lx (ints X)) := Rw1.row_on X7.out b
  have G8 : Hid (Mo.Row w8 w7.heap.size ug L) := rr
  have UG : Hid (∀ g, ug.ownBlock = some g → w7.heap.size ≤ g ∧ g < w8.heap.size) := fun g hg => rr.lt g hg
  clear b rr
  go_wp2_with fail
  refine (EM.out w8 _ _ _ _ G8.out S8.out).mono ?_
  rintro e w9 ⟨rfl, b⟩
  have B9 : Hid (Below w0.heap.size w0 w9) := B8.out.trans (b.mono B8.out.size)
  have E9 : Hid (Below w6.heap.size w6 w9) := E8.out.trans (b.mono E8.out.size)
  have S9 : Hid (Mo.Row w9 w3.heap.size us L) := S8.out.on b
  have X9 : Hid (w9.ownsRow w6.heap.size 2 1 (.slice u7 lx c7) lx (ints X)) := Rw1.row_on X8.out b
  have G9 : Hid (Mo.Row w9 w7.heap.size ug L) := G8.out.on b
  clear b
  have BD : Hid (Below w0.heap.size w0 w9.drew) := below_drewN B9.out 1
  have ED : Hid (Below w6.heap.size w6 w9.drew) := below_drewN E9.out 1
  have RD : Hid (Below w9.heap.size w9 w9.drew) := below_drewN (Below.refl _ _) 1
  have SD : Hid (Mo.Row w9.drew w3.heap.size us L) := S9.out.on RD.out
  have XD : Hid (w9.drew.ownsRow w6.heap.size 2 1 (.slice u7 lx c7) lx (ints X)) := Rw1.row_on X9.out RD.out
  have GD : Hid (Mo.Row w9.drew w7.heap.size ug L) := G9.out.on RD.out
  obtain ⟨k0, k1, k2, k3⟩ := HK.out w9 B9.out
  obtain ⟨j0, j1, j2, j3⟩ := HJ.out w9 E9.out
  go_wp2_with fail
  go_region_held3 (fun w' => w'.cell? ⟨w.heap.size, 0, none⟩ = some (.int .i64 n) ∧ w'.cell? ⟨w.heap.size, 1, none⟩ = some (.slice sg lg cg) ∧ w'.cell? ⟨w.heap.size, 2, none⟩ = some (.slice st lt ct) ∧ w'.cell? ⟨w.heap.size, 3, none⟩ = some (.slice sr lr cr) ∧ w'.cell? ⟨w5.heap.size, 0, none⟩ = some (.int .i64 n) ∧ w'.cell? ⟨w5.heap.size, 1, none⟩ = some (.slice ag ng dg) ∧ w'.cell? ⟨w5.heap.size, 2, none⟩ = some (.slice at' nt dt) ∧ w'.cell? ⟨w5.heap.size, 3, none⟩ = some (.slice ar nr dr)) (go_keep)
    (first
    | (go_at_call 7; refine (TPH.out _ BD.out).mono ?_; rintro e w10 ⟨g10, t10, r10, rfl, p1, p2, p3, b⟩; have B10 : Hid (Below w0.heap.size w0 w10) := BD.out.trans (b.mono BD.out.size); have E10 : Hid (Below w6.heap.size w6 w10) := ED.out.trans (b.mono ED.out.size); have S10 : Hid (Mo.Row w10 w3.heap.size us L) := SD.out.on b; have X10 : Hid (w10.ownsRow w6.heap.size 2 1 (.slice u7 lx c7) lx (ints X)) := Rw1.row_on XD.out b; have G10 : Hid (Mo.Row w10 w7.heap.size ug L) := GD.out.on b; have P10 : Hid (PR w10 G T R g10 t10 r10) := PO.out w10 g10 t10 r10 _ p1 p2 p3; clear b p1 p2 p3; obtain ⟨a0, a1, a2, a3⟩ := HK.out w10 B10.out; obtain ⟨h0, h1, h2, h3⟩ := HJ.out w10 E10.out)
    | (go_at_call 11; refine (EQ.out _ _ _ _ _ _ _ (P6.out w10 E10.out) P10.out).mono ?_; rintro e w11 ⟨rfl, b⟩; have B11 : Hid (Below w0.heap.size w0 w11) := B10.out.trans (b.mono B10.out.size); have E11 : Hid (Below w6.heap.size w6 w11) := E10.out.trans (b.mono E10.out.size); have S11 : Hid (Mo.Row w11 w3.heap.size us L) := S10.out.on b; have X11 : Hid (w11.ownsRow w6.heap.size 2 1 (.slice u7 lx c7) lx (ints X)) := Rw1.row_on X10.out b; have G11 : Hid (Mo.Row w11 w7.heap.size ug L) := G10.out.on b; clear b; obtain ⟨c0, c1, c2, c3⟩ := HK.out w11 B11.out; obtain ⟨d0, d1, d2, d3⟩ := HJ.out w11 E11.out))
  clear k0 k1 k2 k3 j0 j1 j2 j3 a0 a1 a2 a3 h0 h1 h2 h3 c0 c1 c2 d0 d1 d2 d3
  go_wp2_with fail
  refine (TX.out w11 B11.out).mono ?_
  rintro e w12 ⟨u12, c12, rfl, p12, b⟩
  have B12 : Hid (Below w0.heap.size w0 w12) := B11.out.trans (b.mono B11.out.size)
  have E12 : Hid (Below w6.heap.size w6 w12) := E11.out.trans (b.mono E11.out.size)
  have S12 : Hid (Mo.Row w12 w3.heap.size us L) := S11.out.on b
  have X12 : Hid (w12.ownsRow w6.heap.size 2 1 (.slice u7 lx c7) lx (ints X)) := Rw1.row_on X11.out b
  have G12 : Hid (Mo.Row w12 w7.heap.size ug L) := G11.out.on b
  have Y12 : Hid (Lists.Reads w12 (.slice u12 lx c12) X) := XR.out w12 _ _ p12
  clear b p12
  go_wp2_with fail
  refine (EX.out w12 _ _ (XR.out w12 _ _ X12.out) Y12.out).mono ?_
  rintro e w13 ⟨rfl, m13, hw⟩
  have b : Below w12.heap.size w12 w13 := (by rw [hw]; exact below_drewN (Below.refl _ _) _)
  have B13 : Hid (Below w0.heap.size w0 w13) := B12.out.trans (b.mono B12.out.size)
  have E13 : Hid (Below w6.heap.size w6 w13) := E12.out.trans (b.mono E12.out.size)
  have S13 : Hid (Mo.Row w13 w3.heap.size us L) := S12.out.on b
  have X13 : Hid (w13.ownsRow w6.heap.size 2 1 (.slice u7 lx c7) lx (ints X)) := Rw1.row_on X12.out b
  have G13 : Hid (Mo.Row w13 w7.heap.size ug L) := G12.out.on b
  clear b hw
  obtain ⟨j0, j1, j2, j3⟩ := HJ.out w13 E13.out
  go_wp2_with fail
  refine (MAH.out w5 w13 w4.heap.size _ _ _ (D6.out w13 E13.out) OW.out.1 OW.out.2.1 OW.out.2.2 Z45.out).mono ?_
  rintro e w14 ⟨⟨k14, q0, q1, rfl⟩, b, hk⟩
  clear j0 j1 j2 j3
  have B14 : Hid (Below w0.heap.size w0 w14) := B13.out.trans (b.mono B4.out.size)
  have S14 : Hid (Mo.Row w14 w3.heap.size us L) := mrow_keep S13.out (fun g hg => b.block g (US.out g hg))
  have X14 : Hid (w14.ownsRow w6.heap.size 2 1 (.slice u7 lx c7) lx (ints X)) := row_keep X13.out (fun g hg => hk g (by have := UX.out g hg; have := Z56.out; omega) (X13.out.lt g hg).2)
  have G14 : Hid (Mo.Row w14 w7.heap.size ug L) := mrow_keep G13.out (fun g hg => hk g (by have := UG.out g hg; have := Z56.out; have := Z67.out; omega) (G13.out.lt g hg).2)
  clear b hk
  go_wp2_with fail
  refine (MX.out w14 w6.heap.size _ k14 q0 q1 X14.out).mono ?_
  rintro e w15 ⟨⟨z15, rfl, nz⟩, kb⟩
  have B15 : Hid (Below w0.heap.size w0 w15) := B14.out.trans (kb.below (fun g hg => by have := (UX.out g hg).1; have := B6.out.size; omega))
  have S15 : Hid (Mo.Row w15 w3.heap.size us L) := mrow_keep S14.out (fun g hg => kb.block g (fun x => by have := (UX.out g x).1; have := US.out g hg; have := Z45.out; have := Z56.out; omega))
  have G15 : Hid (Mo.Row w15 w7.heap.size ug L) := mrow_keep G14.out (fun g hg => kb.block g (fun x => by have := (UX.out g x).2; have := UG.out g hg; omega))
  clear kb q0 q1
  go_wp2_with fail
  refine (EM.out w15 _ _ _ _ G15.out S15.out).mono ?_
  rintro e w16 ⟨rfl, b⟩
  have B16 : Hid (Below w0.heap.size w0 w16) := B15.out.trans (b.mono B15.out.size)
  have S16 : Hid (Mo.Row w16 w3.heap.size us L) := S15.out.on b
  have G16 : Hid (Mo.Row w16 w7.heap.size ug L) := G15.out.on b
  clear b
  go_wp2_with fail
  refine (MM.out w16 _ _ G16.out).mono ?_
  rintro e w17 ⟨rfl, rr, gr⟩
  have B17 : Hid (Below w0.heap.size w0 w17) := B16.out.grown gr B16.out.size (fun g hg => by have := (UG.out g hg).1; have := B7.out.size; omega)
  have S17 : Hid (Mo.Row w17 w3.heap.size us L) := S16.out.grown gr (fun g hg x => by have := (UG.out g x).1; have := US.out g hg; have := Z45.out; have := Z56.out; have := Z67.out; omega)
  have G17 : Hid (Mo.Row w17 w7.heap.size ug MK) := rr
  clear rr gr
  go_wp2_with fail
  refine (HM.out w17 _ _ G17.out).mono ?_
  rintro e w18 ⟨rfl, m18, hw⟩
  have b : Below w17.heap.size w17 w18 := (by rw [hw]; exact below_drewN (Below.refl _ _) _)
  have B18 : Hid (Below w0.heap.size w0 w18) := B17.out.trans (b.mono B17.out.size)
  have S18 : Hid (Mo.Row w18 w3.heap.size us L) := S17.out.on b
  have G18 : Hid (Mo.Row w18 w7.heap.size ug MK) := G17.out.on b
  clear b hw
  obtain ⟨k0, k1, k2, k3⟩ := HK.out w18 B18.out
  go_wp2_with fail
  refine (TPH.out w18 B18.out).mono ?_
  rintro e w19 ⟨g19, t19, r19, rfl, p1, p2, p3, b⟩
  clear k0 k1 k2 k3
  have B19 : Hid (Below w0.heap.size w0 w19) := B18.out.trans (b.mono B18.out.size)
  have S19 : Hid (Mo.Row w19 w3.heap.size us L) := S18.out.on b
  have G19 : Hid (Mo.Row w19 w7.heap.size ug MK) := G18.out.on b
  have P19 : Hid (PR w19 G T R g19 t19 r19) := PO.out w19 _ _ _ _ p1 p2 p3
  clear b p1 p2 p3
  go_wp2_with fail
  refine (TX.out w19 B19.out).mono ?_
  rintro e w20 ⟨u20, c20, rfl, p20, b⟩
  have B20 : Hid (Below w0.heap.size w0 w20) := B19.out.trans (b.mono B19.out.size)
  have S20 : Hid (Mo.Row w20 w3.heap.size us L) := S19.out.on b
  have G20 : Hid (Mo.Row w20 w7.heap.size ug MK) := G19.out.on b
  have P20 : Hid (PR w20 G T R g19 t19 r19) := P19.out.on b
  have X20 : Hid (Lists.Reads w20 (.slice u20 lx c20) X) := XR.out w20 _ _ p20
  clear b p20
  go_wp2_with fail
  refine (IU.out w20 _ _ _ _ P20.out X20.out).mono ?_
  rintro e w21 ⟨uh, rfl, rr, b⟩
  have B21 : Hid (Below w0.heap.size w0 w21) := B20.out.trans (b.mono B20.out.size)
  have S21 : Hid (Mo.Row w21 w3.heap.size us L) := S20.out.on b
  have G21 : Hid (Mo.Row w21 w7.heap.size ug MK) := G20.out.on b
  have H21 : Hid (Mo.Row w21 w20.heap.size uh L) := rr
  clear b rr
  go_wp2_with fail
  refine (EM.out w21 _ _ _ _ H21.out S21.out).mono ?_
  rintro e w22 ⟨rfl, b⟩
  have B22 : Hid (Below w0.heap.size w0 w22) := B21.out.trans (b.mono B21.out.size)
  have G22 : Hid (Mo.Row w22 w7.heap.size ug MK) := G21.out.on b
  clear b
  go_wp2_with fail
  refine (HM.out w22 _ _ G22.out).mono ?_
  rintro e w23 ⟨rfl, m23, hw⟩
  have B23 : Hid (Below w0.heap.size w0 w23) := (by show Below _ _ _; rw [hw]; exact below_drewN B22.out _)
  clear hw
  go_wp2_with fail
  go_ret
  exact ⟨rfl, HB.out w23 B23.out⟩
end Go.Proofs.Ytaakiemmodncpaa.LawDs
