/- NewCentre: the program. -/
import Derived.Test.YtmmhmbbfeecloaaNb
namespace Go.Proofs.Ytmmhmbbfeecloaa.Nc
open Go.ChangeShapes Go.WideShapes Go.ChangeAt Go.RowKit Rt Ro Su
theorem Try.infoQ : (Try.prog.info? 45).map (fun i => (i.zero, i.size, i.bytes)) = some (some (.agg #[.int .i64 0, .slice none 0 0, .int .i64 0, .int .i64 0]), 4, 48) := by kernel_rfl
set_option maxRecDepth 20000 in
set_option maxHeartbeats 1000000 in
theorem inew_no (L : Ls) (v : Value) (w : World) (h : Reads w v L) (hn : L.length ≤ 1048576) (hf : Fit L) (ho : ¬ Ok L) :
    Calls Try.prog 7 #[v] w fun e w' => Cen w' w.heap.size e [] 0 [] false ∧ Below w.heap.size w w' := by
  have C : Hid (∀ w', Below w.heap.size w w' → Calls Try.prog 17 #[v] w' fun e w'' => e = .returned (.bool false) ∧ Below w'.heap.size w' w'') := fun w' hb => (iok_any L v w' (h.on hb) (by omega) hf).mono fun e w'' hh => ⟨(by obtain ⟨q, e1, e2⟩ := hh.1; cases q; exact e1; exact absurd (e2.1 rfl) ho), hh.2⟩
  have B0 : Hid (Below w.heap.size w (w.alloc (.cells #[.slice none 0 0, .int .i64 0, .int .i64 0, .slice none 0 0, .slice none 0 0] 28))) := (Below.refl _ _).alloc (Nat.le_refl _) _
  have X0 : Hid (Bx (w.alloc (.cells #[.slice none 0 0, .int .i64 0, .int .i64 0, .slice none 0 0, .slice none 0 0] 28)) w.heap.size (.slice none 0 0) (.slice none 0 0) 0) := Bx.new w _ _ _
  clear h hf ho
  go_enter Try.func7, Try.ntmps7
  go_wp2_with fail
  refine (C.out _ B0.out).mono ?_
  rintro e w1 ⟨rfl, hb⟩
  have B1 : Hid (Below w.heap.size w w1) := B0.out.trans (hb.mono B0.out.size)
  obtain ⟨_, ⟨c0, c1, c2, c3, c4⟩, f0, f1, f2, f3, f4⟩ := X0.out.on hb X0.out.1
  clear hb
  go_wp2_with fail
  refine bodyPost_ret (v := .tuple #[ctr (.slice none 0 0) 0 (.slice none 0 0), .bool false]) (by simp [results, Try.results7, go_sem, c0, c1, c2, c3, c4]) rfl ⟨cen_no _ _, ?_⟩
  exact ((((B1.out.setCell (Nat.le_refl _) _).setCell (Nat.le_refl _) _).setCell (Nat.le_refl _) _).setCell (Nat.le_refl _) _).setCell (Nat.le_refl _) _
set_option maxRecDepth 20000 in
set_option maxHeartbeats 2000000 in
theorem inew_yes (L : Ls) (v : Value) (w : World) (h : Reads w v L) (hn : L.length ≤ 1048576) (hf : Fit L) (ho : Ok L) :
    Calls Try.prog 7 #[v] w fun e w' => Cen w' w.heap.size e L 1 (qz (su L 1000)) true ∧ Below w.heap.size w w' := by
  obtain ⟨iq, hi, hz0, hz1, hz2⟩ := info_parts Try.infoQ
  have C1 : Hid (∀ w', Below w.heap.size w w' → Calls Try.prog 17 #[v] w' fun e w'' => e = .returned (.bool true) ∧ Below w'.heap.size w' w'') := fun w' hb => (iok_any L v w' (h.on hb) (by omega) hf).mono fun e w'' hh => ⟨(by obtain ⟨q, e1, e2⟩ := hh.1; cases q; exact absurd (e2.2 ho) (by simp); exact e1), hh.2⟩
  have C2 : Hid (∀ w', Below w.heap.size w w' → Calls Try.prog 18 #[v] w' fun e w'' => ∃ v', e = .returned v' ∧ Rt.Row w'' w'.heap.size v' L ∧ Below w'.heap.size w' w'') := fun w' hb => clone_any w' v L (h.on hb) hn
  have C3 : Hid (∀ w', Below w.heap.size w w' → Calls Try.prog 19 #[v] w' fun e w'' => ∃ v', e = .returned v' ∧ Ints w'' v' (su L 1000) ∧ Below w'.heap.size w' w'') := fun w' hb => isubs_any L v w' (h.on hb) ho
  have hsm := su_small ho
  generalize su L 1000 = S at *
  have B0 : Hid (Below w.heap.size w (w.alloc (.cells #[.slice none 0 0, .int .i64 0, .int .i64 0, .slice none 0 0, .slice none 0 0] 28))) := (Below.refl _ _).alloc (Nat.le_refl _) _
  have X0 : Hid (Bx (w.alloc (.cells #[.slice none 0 0, .int .i64 0, .int .i64 0, .slice none 0 0, .slice none 0 0] 28)) w.heap.size (.slice none 0 0) (.slice none 0 0) 0) := Bx.new w _ _ _
  clear h hf ho
  go_enter Try.func7, Try.ntmps7
  go_wp2_with fail
  refine (C1.out _ B0.out).mono ?_
  rintro e w1 ⟨rfl, hb⟩
  have B1 : Hid (Below w.heap.size w w1) := B0.out.trans (hb.mono B0.out.size)
  have X1 : Hid (Bx w1 w.heap.size (.slice none 0 0) (.slice none 0 0) 0) := X0.out.on hb X0.out.1
  clear hb B0 X0
  go_wp2_with fail
  refine (C2.out _ B1.out).mono ?_
  rintro e w2 ⟨rv, rfl, hr, hb⟩
  have B2 : Hid (Below w.heap.size w w2) := B1.out.trans (hb.mono B1.out.size)
  have X2 : Hid (Bx w2 w.heap.size (.slice none 0 0) (.slice none 0 0) 0) := X1.out.on hb X1.out.1
  have hlt1 : w.heap.size < w1.heap.size := X1.out.1
  obtain ⟨ra, rc, rfl⟩ := hr.form
  generalize hnl : L.length = n at *
  have R2 : Hid (Rt.Row w2 w1.heap.size (.slice ra n rc) L) := hr
  obtain ⟨w3, hw3⟩ : ∃ w3, w3 = w2.alloc (.cells #[.slice ra n rc, .int .i64 0, .int .i64 1, .slice none 0 0, .slice none 0 0] 28) := ⟨_, rfl⟩
  have HW3 : Hid (w3 = w2.alloc (.cells #[.slice ra n rc, .int .i64 0, .int .i64 1, .slice none 0 0, .slice none 0 0] 28)) := hw3
  have Q3 : Hid (Below w2.heap.size w2 w3) := (by show Below _ _ _; rw [hw3]; exact (Below.refl _ _).alloc (Nat.le_refl _) _)
  have B3 : Hid (Below w.heap.size w w3) := B2.out.trans (Q3.out.mono B2.out.size)
  have Y3 : Hid (Bx w3 w2.heap.size (.slice ra n rc) (.slice none 0 0) 1) := (by show Bx _ _ _ _ _; rw [hw3]; exact Bx.new w2 _ _ _)
  have X3 : Hid (Bx w3 w.heap.size (.slice none 0 0) (.slice none 0 0) 0) := X2.out.on Q3.out X2.out.1
  have R3 : Hid (Rt.Row w3 w1.heap.size (.slice ra n rc) L) := R2.out.on Q3.out
  have hs12 : w1.heap.size ≤ w2.heap.size := hb.size
  have RL : Hid (∀ g, (Value.slice ra n rc).ownBlock = some g → w1.heap.size ≤ g ∧ g < w2.heap.size) := fun g hg => R2.out.lt g hg
  clear hb hr hw3 X1 X2 R2 B1 B2
  go_wp2_with fail
  rw [← HW3.out]
  refine (C3.out _ B3.out).mono ?_
  rintro e w4 ⟨sv, rfl, hs, hb⟩
  have B4 : Hid (Below w.heap.size w w4) := B3.out.trans (hb.mono B3.out.size)
  have Y4 : Hid (Bx w4 w2.heap.size (.slice ra n rc) (.slice none 0 0) 1) := Y3.out.on hb Y3.out.1
  have X4 : Hid (Bx w4 w.heap.size (.slice none 0 0) (.slice none 0 0) 0) := X3.out.on hb X3.out.1
  have R4 : Hid (Rt.Row w4 w1.heap.size (.slice ra n rc) L) := R3.out.on hb
  obtain ⟨sa, sc, rfl, hcs⟩ := Ints.form hs
  have HD : Hid (∀ i, i < S.length → ∃ b, sa = some ⟨b, 0, none⟩ ∧ w2.heap.size ≠ b ∧ b < w4.heap.size ∧ w4.cell? ⟨b, i, none⟩ = some (.int .i64 (S.getD i 0))) := fun i hi => (by
    obtain ⟨b, e1, e2, e3⟩ := hcs i hi
    refine ⟨b, e1, fun e => ?_, e2, e3⟩
    subst e
    obtain ⟨b', e1', _, e4⟩ := hcs 0 (by omega)
    rw [e1] at e1'
    simp at e1'
    subst e1'
    have := Y4.out.2.1.1
    rw [e4] at this
    cases this)
  obtain ⟨m, hm⟩ : ∃ m, m = S.length := ⟨_, rfl⟩
  have HM : Hid (m = S.length) := hm
  rw [← hm] at HD hsm ⊢
  have Q0 : Hid (Qu.Row w4 w4.heap.size (.slice none 0 0) (qz (S.take 0))) := Qu.row_none _ _
  have hlt2 : w2.heap.size < w4.heap.size := Y4.out.1
  clear hb hs hcs hm C1 C2 C3 X3 Y3 R3 B3 Q3 HW3
  go_wp2_with fail
  go_loopw [17] (fun i wr => ∃ (k : Nat) (qv : Value), k ≤ m ∧ i = .int .i64 k ∧ Hid (Bx wr w2.heap.size (.slice ra n rc) qv 1) ∧ Hid (Qu.Row wr w4.heap.size qv (qz (S.take k))) ∧ Hid (w4.grownBy wr (some w2.heap.size))) (fun i _ => m - (intOf i).toNat)
  case atStart => exact ⟨0, _, Nat.zero_le _, rfl, Y4, Q0, World.grownBy.refl _ _⟩
  case round =>
    clear Q0
    obtain ⟨k, qv, hk, rfl, BX, RQ, GR⟩ := hrel
    by_cases hlt : k < m
    · obtain ⟨b, rfl, hb1, hb2, hc⟩ := HD.out k hlt
      have i0 : (0 : Int) ≤ (k : Int) := by omega
      have i1 : (k : Int) < (m : Int) := by omega
      have sc0 : wr.cell? ⟨b, k, none⟩ = some (.int .i64 (S.getD k 0)) := (World.cell?_of_block (a := ⟨b, k, none⟩) (GR.out.block b hb2 (by simpa using hb1.symm))).trans hc
      have HE : Hid (qz (S.take (k + 1)) = qz (S.take k) ++ [(S.getD k 0, 0, 0)]) := qz_next S k (by rw [← HM.out]; exact hlt)
      have hql : (qz (S.take k)).length = k := by rw [qz_len, List.length_take, ← HM.out]; omega
      generalize S.getD k 0 = s at *
      generalize qz (S.take k) = D at *
      have RQ' : Hid (wr.ownsRow w4.heap.size 45 4 qv k (Qu.qc D)) := (by have := RQ.out; unfold Qu.Row at this; rw [hql] at this; exact this)
      obtain ⟨_, ⟨c0, c1, c2, c3, c4⟩, f0, f1, f2, f3, f4⟩ := BX.out
      have hsz : w4.heap.size ≤ wr.heap.size := GR.out.size
      clear RQ hc hb1
      go_wp2_with (at_builtin; refine wpList_append_own _ rfl _ _ 26 rfl w4.heap.size 45 iq (.agg #[.int .i64 0, .slice none 0 0, .int .i64 0, .int .i64 0]) 4 48 Try.underlying26 hi hz0 hz1 hz2 rfl (by decide) _ _ _ rfl (RQ'.out.alloc _) ⟨wr.heap.size, 0, none⟩ 1 1 [.int .i64 s, .slice none 0 0, .int .i64 0, .int .i64 0] rfl rfl (cell_four wr _ _ _ _ 45) (one_four _) (by unfold maxLen; omega) (by omega) (by simp; omega) ?_)
      intro v' w5 hown hgrow _
      have A5 : Hid (Below wr.heap.size wr (wr.alloc (.cells #[.int .i64 s, .slice none 0 0, .int .i64 0, .int .i64 0] 45))) := (Below.refl _ _).alloc (Nat.le_refl _) _
      have X5 : Hid (Bx w5 w2.heap.size (.slice ra n rc) qv 1) := (BX.out.on A5.out BX.out.1).grown hgrow (fun e => by have := (RQ'.out.lt _ e).1; omega)
      have G5 : Hid (w4.grownBy w5 (some w2.heap.size)) := grown_new (Rt.grown_below GR.out A5.out) hgrow (fun g hg => (RQ'.out.lt g hg).1)
      have R5 : Hid (w5.ownsRow w4.heap.size 45 4 v' (k + 1) (Qu.qc (D ++ [(s, 0, 0)]))) := (by show World.ownsRow _ _ _ _ _ _ _; rw [Qu.qc_snoc]; exact hown)
      clear hown hgrow c0 c1 c2 c3 c4 f0 f1 f2 f3 f4 A5 sc0
      obtain ⟨va, vc, hv⟩ : ∃ a c, v' = .slice a (k + 1) c := by
        rcases Rt.row_cases R5.out with ⟨h0, _⟩ | ⟨g, c, h1, _⟩
        · omega
        · exact ⟨_, _, h1⟩
      subst hv
      obtain ⟨_, ⟨c0, c1, c2, c3, c4⟩, f0, f1, f2, f3, f4⟩ := X5.out
      have X6 : Hid (Bx (w5.setCell ⟨w2.heap.size, 4, none⟩ (.slice va (k + 1) vc)) w2.heap.size (.slice ra n rc) (.slice va (k + 1) vc) 1) := X5.out.put _
      have G6 : Hid (w4.grownBy (w5.setCell ⟨w2.heap.size, 4, none⟩ (.slice va (k + 1) vc)) (some w2.heap.size)) := Rt.grown_setCell G5.out _ _
      have R6 : Hid (Qu.Row (w5.setCell ⟨w2.heap.size, 4, none⟩ (.slice va (k + 1) vc)) w4.heap.size (.slice va (k + 1) vc) (qz (S.take (k + 1)))) := (by
        show World.ownsRow _ _ _ _ _ _ _
        rw [HE.out, List.length_append, hql]
        exact Rt.row_grown R5.out (Rt.grown_setCell (World.grownBy.refl _ _) _ _) (fun g hg e => by cases e; have := (R5.out.lt _ hg).1; omega))
      clear X5 G5 R5 BX RQ' GR
      go_wp2_with fail
      go_roundw
      case rel => exact ⟨k + 1, _, by omega, by go_num, X6, R6, G6⟩
      case measure => simp [intOf]; omega
    · have ek : k = m := by omega
      subst ek
      have j1 : ¬ (k : Int) < (k : Int) := by omega
      have hst : S.take k = S := by rw [HM.out, List.take_length]
      rw [hst] at RQ
      obtain ⟨qa, qc, hq⟩ : ∃ a c, qv = .slice a (qz S).length c := by
        rcases Rt.row_cases RQ.out with ⟨h0, h1⟩ | ⟨g, c, h1, _⟩
        · exact ⟨none, 0, by rw [h1, h0]⟩
        · exact ⟨_, _, h1⟩
      subst hq
      have XR : Hid (Bx wr w.heap.size (.slice none 0 0) (.slice none 0 0) 0) := X4.out.grown GR.out (by simp; omega)
      have RR : Hid (Rt.Row wr w1.heap.size (.slice ra n rc) L) := R4.out.grown GR.out (fun g hg e => by cases e; have := (RL.out _ hg).2; omega)
      have BR : Hid (Below w.heap.size w wr) := B4.out.grown GR.out B4.out.size (fun k hk => by cases hk; omega)
      obtain ⟨_, ⟨c0, c1, c2, c3, c4⟩, f0, f1, f2, f3, f4⟩ := BX.out
      obtain ⟨_, ⟨d0, d1, d2, d3, d4⟩, g0, g1, g2, g3, g4⟩ := XR.out
      generalize (qz S).length = nq at *
      clear XR BX X4 Y4 R4 HD
      go_wp2_with fail
      have GF := Rt.grown_setCell (Rt.grown_setCell (Rt.grown_setCell (Rt.grown_setCell (Rt.grown_setCell (World.grownBy.refl wr (some w.heap.size)) 0 (.slice ra n rc)) 1 (.int .i64 0)) 2 (.int .i64 1)) 3 (.slice none 0 0)) 4 (.slice qa nq qc)
      refine bodyPost_ret (v := .tuple #[ctr (.slice ra n rc) 1 (.slice qa nq qc), .bool true]) (by simp [results, Try.results7, go_sem, d0, d1, d2, d3, d4]) rfl ⟨⟨_, _, rfl, ?_, ?_, ?_⟩, ?_⟩
      · obtain ⟨xs, r1, r2⟩ := RR.out.grown GF (fun g hg e => by cases e; have := (RL.out _ hg).1; omega)
        exact ⟨xs, down r1 (by omega), r2⟩
      · exact down (Rt.row_grown RQ.out GF (fun g hg e => by cases e; have := (RQ.out.lt _ hg).1; omega)) (by have := B4.out.size; omega)
      · intro g hg e
        have e1 := (RL.out _ hg).2
        have e2 := (RQ.out.lt _ e).1
        omega
      · exact ((((BR.out.setCell (Nat.le_refl _) _).setCell (Nat.le_refl _) _).setCell (Nat.le_refl _) _).setCell (Nat.le_refl _) _).setCell (Nat.le_refl _) _
end Go.Proofs.Ytmmhmbbfeecloaa.Nc
