/- Descend of the model. -/
import Derived.Test.YtaakiemmodncpaaDe
import Derived.Test.YtaakiemmodncpaaBt
namespace Go.Proofs.Ytaakiemmodncpaa.De2
open Go.ChangeShapes Go.WideShapes Go.ChangeAt Go.RowKit
open Go.Proofs.Ytaakiemmodncpaa.Lists Go.Proofs.Ytaakiemmodncpaa.Al Go.Proofs.Ytaakiemmodncpaa.Su Go.Proofs.Ytaakiemmodncpaa.Po Go.Proofs.Ytaakiemmodncpaa.Cs Go.Proofs.Ytaakiemmodncpaa.Cf Go.Proofs.Ytaakiemmodncpaa.Dp Go.Proofs.Ytaakiemmodncpaa.De

set_option maxHeartbeats 1000000 in
set_option maxRecDepth 20000 in
theorem sdesc_no (n : Int) (G T : List Int) (R : Rw.Ls) (X : List Int) (most : Int) (w : World) (vg vt vr vx : Value) (h : LawCsL.PR w G T R vg vt vr) (hX : Lists.Reads w vx X) (hno : okD n G T R X most = false) :
    Calls Try.prog 6 #[Pb.pv n vg vt vr, vx, .int .i64 most] w fun e w' => ∃ v, e = .returned (.tuple #[v, .bool false]) ∧ Mo.Row w' w.heap.size v [] ∧ Below w.heap.size w w' := by
  obtain ⟨hG, hT, hR⟩ := h
  obtain ⟨sg, cg, eg⟩ := hG.form
  obtain ⟨sx, cx, ex⟩ := hX.form
  obtain ⟨st, ct, et⟩ := hT.form
  obtain ⟨sr, cr, er⟩ := hR.form
  subst eg et er ex
  obtain ⟨w0, hw0⟩ : ∃ w0, w0 = w.alloc (Obj.cells #[.int .i64 n, .slice sg G.length cg, .slice st T.length ct, .slice sr R.length cr] 32) := ⟨_, rfl⟩
  have HW0 : Hid (w0 = w.alloc (Obj.cells #[.int .i64 n, .slice sg G.length cg, .slice st T.length ct, .slice sr R.length cr] 32)) := hw0
  have B0 : Below w.heap.size w w0 := by rw [hw0]; exact (Below.refl _ _).alloc (Nat.le_refl _) _
  obtain ⟨we, hwe⟩ : ∃ we, we = w0.alloc (Obj.cells #[] 48) := ⟨_, rfl⟩
  have HWE : Hid (we = (w.alloc (Obj.cells #[.int .i64 n, .slice sg G.length cg, .slice st T.length ct, .slice sr R.length cr] 32)).alloc (Obj.cells #[] 48)) := (by show _ = _; rw [hwe, hw0])
  have BE0 : Below w0.heap.size w0 we := by rw [hwe]; exact (Below.refl _ _).alloc (Nat.le_refl _) _
  have RE0 : Mo.Row we w0.heap.size (.slice (some ⟨w0.heap.size, 0, none⟩) 0 0) [] := by rw [hwe]; exact ⟨[], World.ownsRow_lit w0 #[] 0 (Nat.le_refl _) (Nat.zero_le _) rfl, fun i hi => absurd hi (by simp)⟩
  have HRE : Hid (Mo.Row we w.heap.size (.slice (some ⟨w.heap.size + 1, 0, none⟩) 0 0) []) := (by
    rw [show w.heap.size + 1 = w0.heap.size by rw [hw0]; simp]
    obtain ⟨xs, h1, h2⟩ := RE0
    refine ⟨xs, ⟨h1.1, ?_⟩, h2⟩
    rcases h1.2 with h | ⟨gx, cap, cur, x1, x2, x3⟩
    · exact .inl h
    · exact .inr ⟨gx, cap, cur, x1, by have := B0.size; omega, x3⟩)
  have HBE : Hid (Below w.heap.size w we) := B0.trans (BE0.mono B0.size)
  have HKE : Hid (Pb.Box we w.heap.size (.int .i64 n) (.slice sg G.length cg) (.slice st T.length ct) (.slice sr R.length cr)) := Pb.Box.on (w := w0) (by rw [hw0]; unfold Pb.Box; simp [go_sem]) BE0 (by rw [hw0]; simp)
  have Z0 : Hid (w0.heap.size = w.heap.size + 1) := (by show _ = _; rw [hw0]; simp)
  have K0 : Hid (Pb.Box w0 w.heap.size (.int .i64 n) (.slice sg G.length cg) (.slice st T.length ct) (.slice sr R.length cr)) := (by show Pb.Box _ _ _ _ _ _; rw [hw0]; unfold Pb.Box; simp [go_sem])
  have HB : Hid (Below w.heap.size w w0) := B0
  have C1 : Hid (Calls Try.prog 24 #[Pb.pv n (.slice sg G.length cg) (.slice st T.length ct) (.slice sr R.length cr)] we fun e w' => e = .returned (.bool (okP n G T R)) ∧ Below we.heap.size we w') := sok_any n G T R we _ _ _ ⟨hG.on HBE.out, hT.on HBE.out, hR.on HBE.out⟩
  have C2 : Hid (∀ w', Below w.heap.size w w' → Calls Try.prog 25 #[.slice sx X.length cx, .int .i64 n, .int .i64 (-500), .int .i64 500] w' fun e w'' => e = .returned (.bool (nums X n (-500) 500)) ∧ ∃ m, w'' = w'.drewN m) := fun w' hb => sall_any X n (-500) 500 _ w' (hX.on hb) (Rw.lfits hX)
  have C3 : Hid (∀ w', Calls Try.prog 26 #[.int .i64 most, .int .i64 0, .int .i64 500] w' fun e w'' => e = .returned (.bool (inn most 0 500)) ∧ w'' = w') := fun w' => s_in most 0 500 w'
  unfold okD at hno
  clear hG hT hR hX hw0 B0 BE0 RE0 hwe
  obtain ⟨k0, k1, k2, k3⟩ := HKE.out
  generalize okP n G T R = b1 at *
  generalize nums X n (-500) 500 = b2 at *
  generalize inn most 0 500 = b3 at *
  generalize G.length = ng at *
  generalize T.length = nt at *
  generalize R.length = nr at *
  generalize X.length = nx at *
  go_enter Try.func6, Try.ntmps6
  go_wp2_with fail
  rw [← HWE.out]
  refine (Calls.mono C1.out) ?_
  rintro e w1 ⟨rfl, hb⟩
  have B1 : Hid (Below w.heap.size w w1) := HBE.out.trans (hb.mono HBE.out.size)
  have MR1 : Hid (Mo.Row w1 w.heap.size (.slice (some ⟨w.heap.size + 1, 0, none⟩) 0 0) []) := HRE.out.on hb
  have K1 : Hid (Pb.Box w1 w.heap.size (.int .i64 n) (.slice sg ng cg) (.slice st nt ct) (.slice sr nr cr)) := HKE.out.on hb (by have := Z0.out; have := HRE.out.lt _ rfl; omega)
  clear hb k0 k1 k2 k3
  cases b1
  · go_wp2_with fail
    refine bodyPost_ret (by simp [results, Try.results6, go_sem]) rfl ⟨_, rfl, MR1.out, B1.out⟩
  obtain ⟨k0, k1, k2, k3⟩ := K1.out
  go_wp2_with fail
  refine (C2.out w1 B1.out).mono ?_
  rintro e w2' ⟨rfl, m2, rfl⟩
  obtain ⟨w2, hw2⟩ : ∃ w2, w2 = w1.drewN m2 := ⟨_, rfl⟩
  have B2 : Hid (Below w.heap.size w w2) := (by show Below _ _ _; rw [hw2]; exact below_drewN B1.out m2)
  have MR2 : Hid (Mo.Row w2 w.heap.size (.slice (some ⟨w.heap.size + 1, 0, none⟩) 0 0) []) := (by show Mo.Row _ _ _ _; rw [hw2]; exact MR1.out.on (below_drewN (Below.refl _ _) m2))
  rw [← hw2]
  clear hw2 k0 k1 k2 k3
  cases b2
  · go_wp2_with fail
    refine bodyPost_ret (by simp [results, Try.results6, go_sem]) rfl ⟨_, rfl, MR2.out, B2.out⟩
  have hb3 : b3 = false := by simpa using hno
  subst hb3
  go_wp2_with fail
  refine (C3.out w2).mono ?_
  rintro e w3 ⟨rfl, hw⟩
  have hw' := hw.symm
  subst hw'
  go_wp2_with fail
  refine bodyPost_ret (by simp [results, Try.results6, go_sem]) rfl ⟨_, rfl, MR2.out, B2.out⟩

set_option maxHeartbeats 2000000 in
set_option maxRecDepth 20000 in
theorem sdesc_yes (nn : Nat) (G T : List Int) (R : Rw.Ls) (X : List Int) (most : Int) (w : World) (vg vt vr vx : Value) (h : LawCsL.PR w G T R vg vt vr) (hX : Lists.Reads w vx X) (hyes : okD nn G T R X most = true) (sf : St) (hsf : Dp.Ends G T R nn most (X, []) sf) :
    Calls Try.prog 6 #[Pb.pv nn vg vt vr, vx, .int .i64 most] w fun e w' => ∃ v, e = .returned (.tuple #[v, .bool true]) ∧ Mo.Row w' w.heap.size v sf.2 ∧ Below w.heap.size w w' := by
  obtain ⟨hG, hT, hR⟩ := h
  unfold okD at hyes
  rw [Bool.and_eq_true, Bool.and_eq_true] at hyes
  obtain ⟨y1, y2, y3⟩ := hyes
  have O := ok_of y1
  have y2' := nums_parts y2
  have n1 := O.n1
  have n6 := O.n6
  have lX : X.length = nn := by omega
  have m3 := (inn_iff _ _ _).1 y3
  have G0 : Dp.Good nn G T R most (X, []) := ⟨way_start O lX (fun j hj => y2'.2 j (by omega)), by simp; omega⟩
  have hX0 := hX
  obtain ⟨bx, ox, cx, rfl, bxl, hcx⟩ := at_of hX lX (by omega)
  obtain ⟨sg, cg, eg⟩ := hG.form
  obtain ⟨st', ct, et⟩ := hT.form
  obtain ⟨sr, cr, er⟩ := hR.form
  subst eg et er
  obtain ⟨w0, hw0⟩ : ∃ w0, w0 = w.alloc (Obj.cells #[.int .i64 (nn : Int), .slice sg G.length cg, .slice st' T.length ct, .slice sr R.length cr] 32) := ⟨_, rfl⟩
  obtain ⟨we, hwe⟩ : ∃ we, we = w0.alloc (Obj.cells #[] 48) := ⟨_, rfl⟩
  have HWE : Hid (we = (w.alloc (Obj.cells #[.int .i64 (nn : Int), .slice sg G.length cg, .slice st' T.length ct, .slice sr R.length cr] 32)).alloc (Obj.cells #[] 48)) := (by show _ = _; rw [hwe, hw0])
  have BE0 : Below w0.heap.size w0 we := by rw [hwe]; exact (Below.refl _ _).alloc (Nat.le_refl _) _
  have RE0 : Mo.Row we w0.heap.size (.slice (some ⟨w0.heap.size, 0, none⟩) 0 0) [] := by rw [hwe]; exact ⟨[], World.ownsRow_lit w0 #[] 0 (Nat.le_refl _) (Nat.zero_le _) rfl, fun i hi => absurd hi (by simp)⟩
  have HRE : Hid (Mo.Row we w0.heap.size (.slice (some ⟨w.heap.size + 1, 0, none⟩) 0 0) []) := (by rw [show w.heap.size + 1 = w0.heap.size by rw [hw0]; simp]; exact RE0)
  have B0 : Below w.heap.size w w0 := by rw [hw0]; exact (Below.refl _ _).alloc (Nat.le_refl _) _
  have Z0 : Hid (w0.heap.size = w.heap.size + 1) := (by show _ = _; rw [hw0]; simp)
  have K0 : Pb.Box w0 w.heap.size (.int .i64 (nn : Int)) (.slice sg G.length cg) (.slice st' T.length ct) (.slice sr R.length cr) := by rw [hw0]; unfold Pb.Box; simp [go_sem]
  have HB : Hid (∀ w', Below w0.heap.size w0 w' → Below w.heap.size w w') := fun w' hb => B0.trans (hb.mono B0.size)
  have HK : Hid (∀ w', Below w0.heap.size w0 w' → Pb.Box w' w.heap.size (.int .i64 (nn : Int)) (.slice sg G.length cg) (.slice st' T.length ct) (.slice sr R.length cr)) := fun w' hb => K0.on hb (by have := Z0.out; omega)
  have C1 : Hid (Calls Try.prog 24 #[Pb.pv nn (.slice sg G.length cg) (.slice st' T.length ct) (.slice sr R.length cr)] we fun e w' => e = .returned (.bool true) ∧ Below we.heap.size we w') := by have B1 := B0.trans (BE0.mono B0.size); have := sok_any nn G T R we _ _ _ ⟨hG.on B1, hT.on B1, hR.on B1⟩; rw [y1] at this; exact this
  have C2 : Hid (∀ w', Below w0.heap.size w0 w' → Calls Try.prog 25 #[.slice (some ⟨bx, ox, none⟩) nn cx, .int .i64 (nn : Int), .int .i64 (-500), .int .i64 500] w' fun e w'' => e = .returned (.bool true) ∧ ∃ m, w'' = w'.drewN m) := fun w' hb => by have := sall_any X nn (-500) 500 _ w' (hX0.on (HB.out w' hb)) (by omega); rw [y2] at this; exact this
  have C3 : Hid (∀ w', Calls Try.prog 26 #[.int .i64 most, .int .i64 0, .int .i64 500] w' fun e w'' => e = .returned (.bool true) ∧ w'' = w') := fun w' => by have := s_in most 0 500 w'; rw [y3] at this; exact this
  have HCX : Hid (∀ w', Below w0.heap.size w0 w' → ∀ j u, (ints X)[j]? = some u → (w'.alloc (.cells #[] 2)).cell? ((⟨bx, ox, none⟩ : Addr).add j) = some u) := fun w' hb => ints_at' lX fun i hi => by
    have z := (HB.out w' hb).size
    rw [World.cell?_alloc_lt _ _ _ (show bx < w'.heap.size by omega)]
    exact ((HB.out w' hb).cell (p := ⟨bx, ox + i, none⟩) bxl).trans (hcx i hi)
  have HXL : Hid (X.length = nn) := lX
  obtain ⟨j0, hj, jz0, jz1, jz2⟩ := info_parts Lists.Try.info2
  have CB : Hid (∀ w', Below w0.heap.size w0 w' → ∀ (Y : List Int) (vy : Value) (i : Nat), i < nn → Dp.Way nn G T R Y → Lists.Reads w' vy Y → Calls Try.prog 27 #[Pb.pv nn (.slice sg G.length cg) (.slice st' T.length ct) (.slice sr R.length cr), vy, .int .i64 (i : Int)] w' fun e w'' => e = .returned (.int .i64 (bs G T R Y nn i)) ∧ Below w'.heap.size w' w'') := fun w' hb Y vy i hi hw hy =>
    Bt.sbest_any G T R Y nn i O hw hi _ _ _ vy w' (hG.on (HB.out w' hb)) (hT.on (HB.out w' hb)) (hR.on (HB.out w' hb)) hy
  have CO : Hid (∀ w', Below w0.heap.size w0 w' → ∀ (Y : List Int) (vy : Value), Dp.Way nn G T R Y → Lists.Reads w' vy Y → Calls Try.prog 28 #[Pb.pv nn (.slice sg G.length cg) (.slice st' T.length ct) (.slice sr R.length cr), vy] w' fun e w'' => e = .returned (.int .i64 (cost G T R Y nn)) ∧ Below w'.heap.size w' w'') := fun w' hb Y vy hw hy =>
    scost_any G T R Y nn O (hw.pt O) _ _ _ vy w' (hG.on (HB.out w' hb)) (hT.on (HB.out w' hb)) (hR.on (HB.out w' hb)) hy
  have HO : Hid (Ok nn G T R) := O
  have HG0 : Hid (Dp.Good nn G T R most (X, [])) := G0
  have HSF : Hid (∀ s, Dp.Ends G T R nn most (X, []) s → s.2 = sf.2) := fun s hs => by rw [hs.one hsf]
  obtain ⟨i0, hi, hz0, hz1, hz2⟩ : ∃ i0, Try.prog.info? 48 = some i0 ∧ i0.zero = some (.agg #[.int .i64 0, .int .i64 0, .int .i64 0]) ∧ i0.size = 3 ∧ i0.bytes = 24 := by
    have : (Try.prog.info? 48).map (fun i => (i.zero, i.size, i.bytes)) = some (some (.agg #[.int .i64 0, .int .i64 0, .int .i64 0]), 3, 24) := by kernel_rfl
    exact info_parts this
  generalize sf.2 = LF at *
  clear hG hT hR hX hX0 hw0 B0 K0 y1 y2 y3 y2' O G0 hsf hcx bxl lX n1
  generalize G.length = ng at *
  generalize T.length = nt at *
  generalize R.length = nr at *
  have R0 : Hid (Below w0.heap.size w0 we) := BE0
  obtain ⟨k0, k1, k2, k3⟩ := HK.out we R0.out
  clear BE0 RE0 hwe
  go_enter Try.func6, Try.ntmps6
  go_wp2_with fail
  rw [← HWE.out]
  refine (Calls.mono C1.out) ?_
  rintro e w1 ⟨rfl, hb⟩
  have B1 : Hid (Below w0.heap.size w0 w1) := R0.out.trans (hb.mono R0.out.size)
  have MR1 : Hid (Mo.Row w1 w0.heap.size (.slice (some ⟨w.heap.size + 1, 0, none⟩) 0 0) []) := HRE.out.on hb
  clear hb k0 k1 k2 k3
  obtain ⟨k0, k1, k2, k3⟩ := HK.out w1 B1.out
  go_wp2_with fail
  refine (C2.out w1 B1.out).mono ?_
  rintro e w2' ⟨rfl, m2, rfl⟩
  obtain ⟨w2, hw2⟩ : ∃ w2, w2 = w1.drewN m2 := ⟨_, rfl⟩
  have B2 : Hid (Below w0.heap.size w0 w2) := (by show Below _ _ _; rw [hw2]; exact below_drewN B1.out m2)
  have MR2 : Hid (Mo.Row w2 w0.heap.size (.slice (some ⟨w.heap.size + 1, 0, none⟩) 0 0) []) := (by show Mo.Row _ _ _ _; rw [hw2]; exact MR1.out.on (below_drewN (Below.refl _ _) m2))
  rw [← hw2]
  clear hw2 k0 k1 k2 k3
  go_wp2_with fail
  refine (C3.out w2).mono ?_
  rintro e w3 ⟨rfl, hw⟩
  have hw' := hw.symm
  subst hw'
  have z2 := B2.out.size
  go_wp2_with (at_builtin; refine wpList_append_own_at _ rfl _ _ 22 rfl w2.heap.size 2 j0 (.int .i64 0) 1 8 Try.underlying22 hj jz0 jz1 jz2 rfl (by decide) _ _ _ rfl (empty_row 2) ⟨bx, ox, none⟩ nn cx (ints X) rfl (by rw [List.length_map, HXL.out]; omega) (HCX.out w2 B2.out) (one_cell X) ?c3 ?c4 ?c5 ?_)
  case c3 => unfold maxLen; omega
  case c4 => omega
  case c5 => simp
  intro v' w4 hown hgrow hnil hat
  obtain ⟨g, c, rfl, g1, g2, c1, c2⟩ := row_some hown hnil
  have B4 : Hid (Below w0.heap.size w0 w4) := (B2.out.alloc z2 _).grown hgrow (by simp; omega) (fun k hk => by simp [Value.ownBlock] at hk; omega)
  have HA : Hid (w4.ownsRow w0.heap.size 2 1 (.slice (some ⟨g, 0, none⟩) nn c) nn (ints X)) := (by
    have h : w4.ownsRow w2.heap.size 2 1 (.slice (some ⟨g, 0, none⟩) nn c) nn (ints X) := by simpa using hown
    exact Rw1.own_down h z2)
  have MR : Hid (Mo.Row w4 w0.heap.size (.slice (some ⟨w.heap.size + 1, 0, none⟩) 0 0) []) := (by
    have hz := Z0.out
    have hlt : w.heap.size + 1 < w2.heap.size := (MR2.out.lt (w.heap.size + 1) rfl).2
    exact Mo.Row.grown (MR2.out.on ((Below.refl _ _).alloc (Nat.le_refl _) _)) hgrow (fun b hb e => by simp [Value.ownBlock] at hb e; omega))
  have GG : Hid (w0.heap.size ≤ g) := Nat.le_trans z2 g1
  clear hown hgrow hnil hat g1 g2 c1 c2 z2
  go_wp2_with fail
  go_loopw [8, 9] (fun v b wr => ∃ (s : St) (q : Bool), b = .bool q ∧ (∃ a k, v = .slice a s.2.length k) ∧ Hid ((q = true → ∃ m, rnds G T R nn most m (X, []) = s) ∧ (q = false → Dp.Ends G T R nn most (X, []) s) ∧ Dp.Good nn G T R most s) ∧ Hid (wr.ownsRow w0.heap.size 2 1 (.slice (some ⟨g, 0, none⟩) nn c) nn (ints s.1)) ∧ Hid (Mo.Row wr w0.heap.size v s.2) ∧ Hid (Below w0.heap.size w0 wr)) (fun v b _ => (most.toNat - lenV v) * 2 + bV b)
  case atStart => exact ⟨(X, []), true, rfl, ⟨_, _, rfl⟩, ⟨fun _ => ⟨0, rfl⟩, fun h => (by cases h), HG0.out⟩, HA, MR, B4⟩
  case round =>
    obtain ⟨s, q, rfl, ⟨va, vk, rfl⟩, HS, HAr, HMr, BR⟩ := hrel
    cases q
    · have HL : Hid (s.2 = LF) := HSF.out s (HS.out.2.1 rfl)
      have RE : Hid (Mo.Row wr w.heap.size (.slice va s.2.length vk) s.2) := (by
        obtain ⟨xs, h1, h2⟩ := HMr.out
        refine ⟨xs, ⟨h1.1, ?_⟩, h2⟩
        rcases h1.2 with h | ⟨gx, cap, cur, x1, x2, x3⟩
        · exact .inl h
        · exact .inr ⟨gx, cap, cur, x1, by have := Z0.out; omega, x3⟩)
      have BE : Hid (Below w.heap.size w wr) := HB.out wr BR.out
      rw [HL.out] at RE ⊢
      go_wp2_with fail
      refine bodyPost_ret (by simp [results, Try.results6, go_sem]) rfl ⟨_, rfl, RE.out, BE.out⟩
    · obtain ⟨m0, hm0⟩ := HS.out.1 rfl
      have HM0 : Hid (rnds G T R nn most m0 (X, []) = s) := hm0
      have HGd : Hid (Dp.Good nn G T R most s) := HS.out.2.2
      have few := HGd.out.few
      obtain ⟨l0, hl0⟩ : ∃ l0, l0 = s.2.length := ⟨_, rfl⟩
      have HL0 : Hid (l0 = s.2.length) := hl0
      rw [← hl0] at few HMr ⊢
      clear hm0 hl0 HS
      obtain ⟨k0, k1, k2, k3⟩ := HK.out wr BR.out
      go_wp2_with fail
      clear k0 k1 k2 k3
      go_loopw [8, 9, 10] (fun v b i wr => ∃ (k : Nat) (q : Bool), k ≤ nn ∧ i = .int .i64 (k : Int) ∧ b = .bool q ∧ (∃ a z, v = .slice a (upto G T R nn most k s).2.length z) ∧ Hid ((q = true → s.2.length < (upto G T R nn most k s).2.length) ∧ (q = false → upto G T R nn most k s = s)) ∧ Hid (wr.ownsRow w0.heap.size 2 1 (.slice (some ⟨g, 0, none⟩) nn c) nn (ints (upto G T R nn most k s).1)) ∧ Hid (Mo.Row wr w0.heap.size v (upto G T R nn most k s).2) ∧ Hid (Below w0.heap.size w0 wr)) (fun _ _ i _ => nn - (intOf i).toNat)
      case atStart => exact ⟨0, false, by omega, rfl, rfl, ⟨_, _, by rw [HL0.out]; rfl⟩, ⟨fun h => (by cases h), fun _ => rfl⟩, HAr, HMr, BR⟩
      case round =>
        obtain ⟨k, q, hk, rfl, rfl, ⟨ua, uz, rfl⟩, HQ, HAq, HMq, BQ⟩ := hrel
        by_cases hlt : k < nn
        · have i2 : (k : Int) < (nn : Int) := by omega
          have i1 : (0 : Int) ≤ (k : Int) := by omega
          have HGk : Hid (Dp.Good nn G T R most (upto G T R nn most k s)) := HGd.out.upto HO.out k (by omega)
          have HN : Hid (upto G T R nn most (k + 1) s = st G T R nn most k (upto G T R nn most k s)) := rfl
          have fk := HGk.out.few
          obtain ⟨Y, L, hYL⟩ : ∃ Y L, upto G T R nn most k s = (Y, L) := ⟨_, _, rfl⟩
          have HYL : Hid (upto G T R nn most k s = (Y, L)) := hYL
          rw [hYL] at HQ HAq HMq HGk HN fk ⊢
          clear hYL
          simp only at HQ HAq HMq HGk HN fk ⊢
          have WY : Hid (Dp.Way nn G T R Y) := HGk.out.way
          have lY : Hid (Y.length = nn) := WY.out.len
          have RY : Hid (Lists.Reads wr (.slice (some ⟨g, 0, none⟩) nn c) Y) := (by
            have h := HAq.out
            have e := lY.out
            subst e
            exact Lists.reads_row h)
          have M1 : Hid (Calls Try.prog 27 #[Pb.pv nn (.slice sg ng cg) (.slice st' nt ct) (.slice sr nr cr), .slice (some ⟨g, 0, none⟩) nn c, .int .i64 (k : Int)] wr fun e w'' => e = .returned (.int .i64 (bs G T R Y nn k)) ∧ Below wr.heap.size wr w'') := CB.out wr BQ.out Y _ k hlt WY.out RY.out
          have bb := WY.out.bs_le HO.out hlt
          have yb := WY.out.near HO.out k hlt
          have HST : Hid (st G T R nn most k (Y, L) = if bs G T R Y nn k = 0 ∨ (L.length : Int) = most then (Y, L) else (mv Y k (bs G T R Y nn k), L ++ [((k : Int), bs G T R Y nn k, cost G T R (mv Y k (bs G T R Y nn k)) nn)])) := rfl
          have WN : Hid (Dp.Way nn G T R (mv Y k (bs G T R Y nn k))) := WY.out.step HO.out hlt
          obtain ⟨k0, k1, k2, k3⟩ := HK.out wr BQ.out
          obtain ⟨z, hz⟩ : ∃ z, bs G T R Y nn k = z := ⟨_, rfl⟩
          rw [hz] at M1 bb HST WN
          clear hz
          obtain ⟨bb1, bb2⟩ := bb
          obtain ⟨yb1, yb2⟩ := yb
          obtain ⟨l, hl⟩ : ∃ l, l = L.length := ⟨_, rfl⟩
          have HLl : Hid (l = L.length) := hl
          rw [← hl] at fk HST HMq HQ ⊢
          clear hl
          go_wp2_with fail
          refine M1.out.mono ?_
          rintro e w5 ⟨rfl, hb⟩
          have B5 : Hid (Below w0.heap.size w0 w5) := BQ.out.trans (hb.mono BQ.out.size)
          have A5 : Hid (w5.ownsRow w0.heap.size 2 1 (.slice (some ⟨g, 0, none⟩) nn c) nn (ints Y)) := Mo.row_below HAq.out hb
          have M5 : Hid (Mo.Row w5 w0.heap.size (.slice ua l uz) L) := HMq.out.on hb
          clear hb k0 k1 k2 k3
          by_cases hz0' : z = 0
          · subst hz0'
            have E1 : Hid (upto G T R nn most (k + 1) s = (Y, L)) := (by show _ = _; rw [HN.out, HST.out, if_pos (.inl rfl)])
            go_wp2_with fail
            go_roundw
            case rel => exact ⟨k + 1, q, by omega, by go_num, rfl, ⟨ua, uz, by rw [E1.out, HLl.out]⟩, by show _ ∧ _; rw [E1.out]; rw [HLl.out] at HQ; exact HQ.out, by show World.ownsRow _ _ _ _ _ _ _; rw [E1.out]; exact A5.out, by show Mo.Row _ _ _ _; rw [E1.out]; exact M5.out, B5⟩
            case measure => simp [intOf]; omega
          · by_cases hfull : (l : Int) = most
            · have EN : Hid (L = LF) := (by
                have h := ends_full (G := G) (T := T) (R := R) (n := nn) (most := most) (s := (X, [])) (m := m0) (k := k) (s' := (Y, L)) (by omega) (by rw [HM0.out]; exact HYL.out) (by show (L.length : Int) = most; rw [← HLl.out]; exact hfull)
                exact HSF.out _ h)
              have hl2 : L.length = l := HLl.out.symm
              have RE : Hid (Mo.Row w5 w.heap.size (.slice ua l uz) L) := (by
                obtain ⟨xs, h1, h2⟩ := M5.out
                refine ⟨xs, ⟨h1.1, ?_⟩, h2⟩
                rcases h1.2 with h | ⟨gx, cap, cur, x1, x2, x3⟩
                · exact .inl h
                · exact .inr ⟨gx, cap, cur, x1, by have := Z0.out; omega, x3⟩)
              rw [EN.out] at RE
              have BE : Hid (Below w.heap.size w w5) := HB.out w5 B5.out
              have q1 : (z == 0) = false := by simp [hz0']
              clear hl2
              go_wp2_with fail
              refine bodyPost_ret (by simp [results, Try.results6, go_sem]) rfl ⟨_, rfl, RE.out, BE.out⟩
            · have E1 : Hid (upto G T R nn most (k + 1) s = (mv Y k z, L ++ [((k : Int), z, cost G T R (mv Y k z) nn)])) := (by show _ = _; rw [HN.out, HST.out, if_neg (by omega)])
              have q1 : (z == 0) = false := by simp [hz0']
              have q2 : ((l : Int) == most) = false := by simp [hfull]
              have d1 : w5.cell? ⟨g, k, none⟩ = some (.int .i64 (Y.getD k 0)) := row_get A5.out lY.out k hlt
              have d2 : w5.frozen? ⟨g, k, none⟩ = false := A5.out.frozenAt k
              have wz : IntKind.i64.wrap (Y.getD k 0 + z) = Y.getD k 0 + z := IntWalk.i64_in _ (by omega)
              obtain ⟨w6, hw6⟩ : ∃ w6, w6 = w5.setCell ⟨g, k, none⟩ (.int .i64 (Y.getD k 0 + z)) := ⟨_, rfl⟩
              have HW6 : Hid (w6 = w5.setCell ⟨g, k, none⟩ (.int .i64 (Y.getD k 0 + z))) := hw6
              have B6 : Hid (Below w0.heap.size w0 w6) := (by show Below _ _ _; rw [hw6]; exact B5.out.setCell (p := ⟨g, k, none⟩) GG.out _)
              have A6 : Hid (w6.ownsRow w0.heap.size 2 1 (.slice (some ⟨g, 0, none⟩) nn c) nn (ints (mv Y k z))) := (by show World.ownsRow _ _ _ _ _ _ _; rw [hw6]; exact row_put A5.out k _)
              have M6 : Hid (Mo.Row w6 w0.heap.size (.slice ua l uz) L) := (by
                show Mo.Row _ _ _ _
                rw [hw6]
                obtain ⟨xs, x1, x2⟩ := M5.out
                exact ⟨xs, Mk.row_off x1 g _ _ (fun e => Mk.type_ne A5.out x1 (by decide) g rfl e), x2⟩)
              have RY6 : Hid (Lists.Reads w6 (.slice (some ⟨g, 0, none⟩) nn c) (mv Y k z)) := (by
                have h := A6.out
                have e : (mv Y k z).length = nn := (mv_len _ _ _).trans lY.out
                generalize mv Y k z = Y' at *
                subst e
                exact Lists.reads_row h)
              have M2 : Hid (Calls Try.prog 28 #[Pb.pv nn (.slice sg ng cg) (.slice st' nt ct) (.slice sr nr cr), .slice (some ⟨g, 0, none⟩) nn c] w6 fun e w'' => e = .returned (.int .i64 (cost G T R (mv Y k z) nn)) ∧ Below w6.heap.size w6 w'') := CO.out w6 B6.out _ _ WN.out RY6.out
              obtain ⟨k0, k1, k2, k3⟩ := HK.out w6 B6.out
              have K5 := HK.out w5 B5.out
              have hne : ¬ w.heap.size = g := by have := GG.out; have := Z0.out; omega
              obtain ⟨h0, h1, h2, h3⟩ := K5
              clear hw6
              generalize Y.getD k 0 = y at *
              obtain ⟨C, hC⟩ : ∃ C, cost G T R (mv Y k z) nn = C := ⟨_, rfl⟩
              rw [hC] at M2 E1
              clear hC
              go_wp2_with fail
              rw [← HW6.out]
              refine M2.out.mono ?_
              rintro e w7 ⟨rfl, hb⟩
              have B7 : Hid (Below w0.heap.size w0 w7) := B6.out.trans (hb.mono B6.out.size)
              have A7 : Hid (w7.ownsRow w0.heap.size 2 1 (.slice (some ⟨g, 0, none⟩) nn c) nn (ints (mv Y k z))) := Mo.row_below A6.out hb
              have M7 : Hid (Mo.Row w7 w0.heap.size (.slice ua l uz) L) := M6.out.on hb
              clear hb k0 k1 k2 k3 h0 h1 h2 h3 d1 d2
              obtain ⟨xs, x1, x2⟩ := M7.out
              rw [← HLl.out] at x1
              have X1 : Hid (w7.ownsRow w0.heap.size 48 3 (.slice ua l uz) l xs) := x1
              have X2 : Hid (Mo.Good xs L L.length) := x2
              have XL : Hid (xs.length = L.length * 3) := (by show _ = _; rw [x1.1, HLl.out])
              have z7 := B7.out.size
              have OL : Hid (∀ b, (Value.slice ua l uz).ownBlock = some b → w0.heap.size ≤ b) := fun b hb => (x1.lt b hb).1
              have NE : Hid (∀ b, (Value.slice ua l uz).ownBlock = some b → b ≠ g) := fun b hb e => by subst e; exact Mk.type_ne A7.out x1 (by decide) b rfl hb
              clear x1 x2
              go_wp2_with (at_builtin; refine wpList_append_own _ rfl _ _ 27 rfl w0.heap.size 48 i0 (.agg #[.int .i64 0, .int .i64 0, .int .i64 0]) 3 24 Try.underlying27 hi hz0 hz1 hz2 rfl (by decide) _ _ _ rfl (X1.out.alloc _) ⟨w7.heap.size, 0, none⟩ 1 1 [.int .i64 (k : Int), .int .i64 z, .int .i64 C] rfl rfl (Mo.cell_news w7 _ _ _ 48) ?c1 ?c2 ?c3 ?c4 ?_)
              case c1 => intro u hu; simp at hu; rcases hu with rfl | rfl | rfl <;> rfl
              case c2 => unfold maxLen; omega
              case c3 => omega
              case c4 => simp; omega
              intro v' w8 hown hgrow _
              have R8 : Hid (Mo.Row w8 w0.heap.size v' (L ++ [((k : Int), z, C)])) := (by
                refine ⟨_, ?_, Mo.good_snoc X2.out XL.out⟩
                simp only [List.length_append, List.length_cons, List.length_nil]
                rw [← HLl.out]
                exact hown)
              have B8 : Hid (Below w0.heap.size w0 w8) := (B7.out.alloc z7 _).grown hgrow (by simp; omega) (fun b hb => OL.out b hb)
              have A8 : Hid (w8.ownsRow w0.heap.size 2 1 (.slice (some ⟨g, 0, none⟩) nn c) nn (ints (mv Y k z))) := Mo.row_grown (A7.out.alloc _) hgrow (fun b hb e => by simp [Value.ownBlock] at hb; exact NE.out b e hb.symm)
              obtain ⟨na, nc, hv'⟩ := R8.out.form
              subst hv'
              have len1 : Hid ((L ++ [((k : Int), z, C)]).length = l + 1) := (by show _ = _; rw [HLl.out]; simp)
              clear hown hgrow
              go_wp2_with fail
              go_roundw
              case rel => exact ⟨k + 1, true, by omega, by go_num, rfl, ⟨na, nc, by rw [E1.out]⟩, ⟨fun _ => by
                  rw [E1.out, len1.out]
                  cases q
                  · have := HQ.out.2 rfl
                    rw [← this] at HL0
                    simp only at HL0
                    rw [← this]
                    show L.length < _
                    rw [← HLl.out]; omega
                  · have := HQ.out.1 rfl
                    omega, fun h => by cases h⟩, by show World.ownsRow _ _ _ _ _ _ _; rw [E1.out]; exact A8.out, by show Mo.Row _ _ _ _; rw [E1.out]; exact R8.out, B8⟩
              case measure => simp [intOf]; omega
        · have hkn : k = nn := by omega
          subst hkn
          have HR1 : Hid (rnds G T R k most (m0 + 1) (X, []) = upto G T R k most k s) := (by show upto _ _ _ _ _ _ (rnds G T R k most m0 (X, [])) = _; rw [HM0.out])
          have HGk : Hid (Dp.Good k G T R most (upto G T R k most k s)) := HGd.out.upto HO.out k (Nat.le_refl _)
          have fk := HGk.out.few
          have NX : Hid ((q = true → ∃ m, rnds G T R k most m (X, []) = upto G T R k most k s) ∧ (q = false → Dp.Ends G T R k most (X, []) (upto G T R k most k s)) ∧ Dp.Good k G T R most (upto G T R k most k s)) := ⟨fun _ => ⟨m0 + 1, HR1.out⟩, fun h => by
            have e := HQ.out.2 h
            rw [e]
            exact ⟨m0, HM0.out, e⟩, HGk.out⟩
          have LL := HQ.out
          obtain ⟨k0, k1, k2, k3⟩ := HK.out wr BQ.out
          have ME : Hid ((most.toNat - (upto G T R k most k s).2.length) * 2 + bV (.bool q) < (most.toNat - l0) * 2 + 1) := (by
            show _ < _
            have e0 := HL0.out
            cases q
            · have := LL.2 rfl
              rw [this]
              show _ * 2 + 0 < _
              omega
            · have := LL.1 rfl
              show _ * 2 + 1 < _
              omega)
          go_wp2_with fail
          go_roundw
          case rel => exact ⟨upto G T R k most k s, q, rfl, ⟨ua, uz, rfl⟩, NX, HAq, HMq, BQ⟩
          case measure => exact ME.out
end Go.Proofs.Ytaakiemmodncpaa.De2
