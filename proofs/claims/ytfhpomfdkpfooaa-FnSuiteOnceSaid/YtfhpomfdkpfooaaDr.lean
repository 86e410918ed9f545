/- A run drawn of a code. -/
import Derived.Test.YtfhpomfdkpfooaaEv
namespace Go.Proofs.Ytfhpomfdkpfooaa.Ty
open Go.ChangeShapes Go.WideShapes Go.ChangeAt Go.RowKit
open Go.Proofs.Ytfhpomfdkpfooaa.Lists Go.Proofs.Ytfhpomfdkpfooaa.Tm Go.Proofs.Ytfhpomfdkpfooaa.Rk Go.Proofs.Ytfhpomfdkpfooaa.Ru Go.Proofs.Ytfhpomfdkpfooaa.Al Go.Proofs.Ytfhpomfdkpfooaa.Rd Go.Proofs.Ytfhpomfdkpfooaa.Cp

/-- a right run, drawn -/
def DR (r : Nat) (w : World) (vr vx vj : Value) (now : Int) (w' : World) : Prop := ∃ R X J, MO w' w.heap.size vr vx vj R X J ∧ okR R X now J = true ∧ Rd r w' ∧ Turn r w w'
theorem MO.form {w : World} {B : Nat} {vr vx vj : Value} {R : Tk.Ls} {X : List Int} {J : Jb.Ls} (h : MO w B vr vx vj R X J) : ∃ ra rc xa xc ja jc, vr = .slice ra R.length rc ∧ vx = .slice xa X.length xc ∧ vj = .slice ja J.length jc := by
  obtain ⟨ra, rc, e1⟩ := h.reads.1.form
  obtain ⟨xa, xc, e2⟩ := h.reads.2.1.form
  obtain ⟨ja, jc, e3⟩ := h.reads.2.2.form
  exact ⟨ra, rc, xa, xc, ja, jc, e1, e2, e3⟩
theorem jn_fin {R : Tk.Ls} {X : List Int} {now : Int} {J : Jb.Ls} (h : okR R X now J = true) : okR R X now (jn R X J R.length) = true := jn_ok h R.length (Nat.le_refl _)

set_option maxRecDepth 20000 in
set_option maxHeartbeats 4000000 in
theorem run_any (r : Nat) (w : World) (h : Rd r w) :
    Calls Try.prog 40 #[.pointer (some ⟨r, 0, none⟩)] w fun e w' => ∃ vr vx vj now, e = .returned (rv vr vx now vj) ∧ DR r w vr vx vj now w' := by
  have hr := h.lt
  obtain ⟨w0, hw0⟩ : ∃ w0, w0 = w.alloc (.cells #[.slice none 0 0, .slice none 0 0, .int .i64 0, .slice none 0 0] 30) := ⟨_, rfl⟩
  have HW0 : Hid (w0 = w.alloc (.cells #[.slice none 0 0, .slice none 0 0, .int .i64 0, .slice none 0 0] 30)) := hw0
  have Z0 : Hid (w0.heap.size = w.heap.size + 1) := (by show _ = _; rw [hw0]; simp)
  have K0 : Hid (Rd r w0 ∧ Turn r w w0 ∧ Bl w0 w.heap.size 30 zr) := (by show _ ∧ _ ∧ _; rw [hw0]; exact ⟨h.kept ((Below.refl w.heap.size w).alloc (Nat.le_refl _) _) hr, (Turn.refl r w).alloc hr _, Bl.new w 30 _⟩)
  clear hw0 h
  go_enter Try.func40, Try.ntmps40
  go_upto_region 1 with fail
  rw [← HW0.out]
  clear HW0
  go_wp2_with fail
  refine (Du.suite_any r w0 K0.out.1).mono ?_
  rintro e w1 ⟨sT, sL, rfl, D⟩
  obtain ⟨R, X, d1, d2, d3, d4, d5⟩ := D
  have D1 : Hid (Tk.Row w1 w0.heap.size sT R ∧ w1.ownsRow w0.heap.size 2 1 sL X.length (ints X) ∧ So.okS R X = true ∧ Rd r w1 ∧ Turn r w0 w1) := ⟨d1, d2, d3, d4, d5⟩
  clear d1 d2 d3 d4 d5
  go_wp2_with fail
  refine (Nr.snew_yes R X sT sL w1 D1.out.1.reads (Lists.reads_row D1.out.2.1) D1.out.2.2.1).mono ?_
  rintro e w2 ⟨ur, ux, uj, rfl, ⟨m1, m2, m3⟩, b2⟩
  obtain ⟨nb, hnb⟩ : ∃ y, y = w2.heap.size := ⟨_, rfl⟩
  have HNB : Hid (nb = w2.heap.size) := hnb
  obtain ⟨w3, hw3⟩ : ∃ y, y = w2.alloc (.cells #[ur, ux, .int .i64 0, uj] 30) := ⟨_, rfl⟩
  have HW3 : Hid (w3 = w2.alloc (.cells #[ur, ux, .int .i64 0, uj] 30)) := hw3
  have S3 : Hid (RD r w nb ur ux uj 0 R X (Nr.zs R.length) w3) := (by
    show RD _ _ _ _ _ _ _ _ _ _ _
    obtain ⟨q1, q2, q3, q4, q5⟩ := D1.out
    obtain ⟨k1, k2, k3⟩ := K0.out
    have z0 := Z0.out
    have z1 := q5.size
    have z2 := b2.size
    have b3 : Below w2.heap.size w2 w3 := by rw [hw3]; exact (Below.refl _ _).alloc (Nat.le_refl _) _
    have B3 : Below w1.heap.size w1 w3 := b2.trans (b3.mono z2)
    have hm : MO w2 w1.heap.size ur ux uj R X (Nr.zs R.length) := ⟨m1, m2, m3⟩
    refine ⟨q4.kept B3 q4.lt, (k2.trans q5).trans (Turn.of B3 (Nat.le_refl _) (Nat.le_of_lt q4.lt)), by omega, ((k3.kb (Du.turn_kb q5) (by omega)).on b2).on b3, by rw [hw3, hnb]; exact Bl.new w2 30 _, (hm.on b3).down (by omega), new_ok q3⟩)
  obtain ⟨ra0, rc0, xa0, xc0, ja0, jc0, e1, e2, e3⟩ := S3.out.mo.form
  subst e1 e2 e3
  clear m1 m2 m3 b2 hnb hw3 D1
  go_upto_region 2 with fail
  rw [← HW3.out, ← HNB.out]
  clear HW3 HNB K0
  go_wp2_with fail
  refine (Du.size_any r w3 S3.out.rd 4 30 (by omega) (by omega)).mono ?_
  rintro e w4 ⟨⟨un, ⟨hu1, hu2⟩, rfl⟩, k4, t4⟩
  obtain ⟨n, hn⟩ : ∃ n : Nat, un = (n : Int) := ⟨un.toNat, by omega⟩
  subst hn
  have S4 : Hid (RD r w nb (.slice ra0 R.length rc0) (.slice xa0 X.length xc0) (.slice ja0 (Nr.zs R.length).length jc0) 0 R X (Nr.zs R.length) w4) := S3.out.turn hr k4 t4
  clear k4 t4 S3
  go_wp2_with fail
  go_loopw [6] (fun c wr => ∃ (k : Nat) (vr vx vj : Value) (now : Int) (R : Tk.Ls) (X : List Int) (J : Jb.Ls), k ≤ n ∧ c = .int .i64 k ∧ Hid (RD r w nb vr vx vj now R X J wr)) (fun c _ => n - (intOf c).toNat)
  case atStart => exact ⟨0, _, _, _, _, _, _, _, Nat.zero_le _, rfl, S4⟩
  case round =>
    clear S4
    obtain ⟨k, vr, vx, vj, now, R, X, J, hk, rfl, S⟩ := hrel
    obtain ⟨ra, rc, xa, xc, ja, jc, e1, e2, e3⟩ := S.out.mo.form
    subst e1 e2 e3
    by_cases hlt : k < n
    · have i2 : (k : Int) < (n : Int) := by omega
      go_wp2_with fail
      refine (below_all r wr S.out.rd 6 (by omega) (by omega)).mono ?_
      rintro e w5 ⟨⟨u, ⟨hu3, hu4⟩, rfl⟩, k5, t5⟩
      have S5 : Hid (RD r w nb (.slice ra R.length rc) (.slice xa X.length xc) (.slice ja J.length jc) now R X J w5) := S.out.turn hr k5 t5
      clear k5 t5 S
      obtain ⟨c0, c1, c2, c3⟩ := S5.out.cells
      obtain ⟨f0, f1, f2, f3⟩ := S5.out.free
      have hc : u = 0 ∨ u = 1 ∨ u = 2 ∨ u = 3 ∨ u = 4 ∨ u = 5 := by omega
      have HLJ : Hid (1 ≤ J.length ∧ J.length ≤ 60) := (by obtain ⟨o1, _, o3, _⟩ := okR_iff.1 S5.out.ok; have F := fit_of o1; have := F.r1; have := F.r60; show _ ∧ _; omega)
      clear hu3 hu4
      have START : Hid (Calls Try.prog 57 #[rv (.slice ra R.length rc) (.slice xa X.length xc) now (.slice ja J.length jc)] w5 fun e w' => ∃ ra' rc' xa' xc' ja' jc' la lc, e = .returned (.tuple #[rv (.slice ra' R.length rc') (.slice xa' X.length xc') now (.slice ja' J.length jc'), .slice la (ln R X J R.length).length lc]) ∧ RD r w nb (.slice ra' R.length rc') (.slice xa' X.length xc') (.slice ja' J.length jc') now R X (jn R X J R.length) (put4 w' nb (.slice ra' R.length rc') (.slice xa' X.length xc') (.int .i64 now) (.slice ja' J.length jc')) ∧ Below w5.heap.size w5 w') := (sstart_yes R X now J _ _ _ w5 S5.out.mo.reads S5.out.ok).mono (by
        rintro e w6 ⟨a1, a2, a3, a4, a5, a6, a7, a8, rfl, hm, _, hb⟩
        exact ⟨a1, a2, a3, a4, a5, a6, a7, a8, rfl, S5.out.put hr hb hm (jn_fin S5.out.ok), hb⟩)
      have CRASH : Hid (∀ W, RD r w nb (.slice ra R.length rc) (.slice xa X.length xc) (.slice ja J.length jc) now R X J W → Calls Try.prog 58 #[rv (.slice ra R.length rc) (.slice xa X.length xc) now (.slice ja J.length jc)] W fun e w' => ∃ ra' rc' xa' xc' ja' jc', e = .returned (rv (.slice ra' R.length rc') (.slice xa' X.length xc') now (.slice ja' J.length jc')) ∧ RD r w nb (.slice ra' R.length rc') (.slice xa' X.length xc') (.slice ja' J.length jc') now R X (crs J J.length) (put4 w' nb (.slice ra' R.length rc') (.slice xa' X.length xc') (.int .i64 now) (.slice ja' J.length jc')) ∧ Below W.heap.size W w') := fun W hW => (scrash_yes R X now J _ _ _ W hW.mo.reads hW.ok).mono (by
        rintro e w6 ⟨a1, a2, a3, a4, a5, a6, rfl, hm, hb⟩
        exact ⟨a1, a2, a3, a4, a5, a6, rfl, hW.put hr hb hm (crs_ok hW.ok), hb⟩)
      have TICK : Hid (∀ W tn, 0 ≤ tn → RD r w nb (.slice ra R.length rc) (.slice xa X.length xc) (.slice ja J.length jc) now R X J W → Calls Try.prog 12 #[rv (.slice ra R.length rc) (.slice xa X.length xc) now (.slice ja J.length jc), .int .i64 tn] W fun e w' => ∃ ra' rc' xa' xc' ja' jc' now' la lc ll, e = .returned (.tuple #[rv (.slice ra' R.length rc') (.slice xa' X.length xc') now' (.slice ja' J.length jc'), .slice la ll lc]) ∧ RD r w nb (.slice ra' R.length rc') (.slice xa' X.length xc') (.slice ja' J.length jc') now' R X J (put4 w' nb (.slice ra' R.length rc') (.slice xa' X.length xc') (.int .i64 now') (.slice ja' J.length jc')) ∧ Below W.heap.size W w') := fun W tn h0 hW => (stick_yes R X now J _ _ _ tn W hW.mo.reads hW.ok h0).mono (by
        rintro e w6 ⟨a1, a2, a3, a4, a5, a6, a7, a8, rfl, hm, _, hb⟩
        exact ⟨a1, a2, a3, a4, a5, a6, _, a7, a8, _, rfl, hW.put hr hb hm (nw_ok hW.ok h0), hb⟩)
      have REP : Hid (∀ W tk ok, RD r w nb (.slice ra R.length rc) (.slice xa X.length xc) (.slice ja J.length jc) now R X J W → Calls Try.prog 8 #[rv (.slice ra R.length rc) (.slice xa X.length xc) now (.slice ja J.length jc), .int .i64 tk, .bool ok] W fun e w' => ∃ ra' rc' xa' xc' ja' jc' b J', e = .returned (.tuple #[rv (.slice ra' R.length rc') (.slice xa' X.length xc') now (.slice ja' J.length jc'), .bool b]) ∧ RD r w nb (.slice ra' R.length rc') (.slice xa' X.length xc') (.slice ja' J.length jc') now R X J' (put4 w' nb (.slice ra' R.length rc') (.slice xa' X.length xc') (.int .i64 now) (.slice ja' J.length jc')) ∧ Below W.heap.size W w') := fun W tk ok hW => (srep_any R X now J _ _ _ tk ok W hW.mo.reads hW.ok).mono (by
        rintro e w6 ⟨a1, a2, a3, a4, a5, a6, rfl, hm, hb⟩
        exact ⟨a1, a2, a3, a4, a5, a6, _, _, rfl, hW.put hr hb hm (rps_ok hW.ok tk ok), hb⟩)
      have UPF : Hid (∀ W w' : World, RD r w nb (.slice ra R.length rc) (.slice xa X.length xc) (.slice ja J.length jc) now R X J W → Below W.heap.size W w' → (w'.cell? ⟨nb, 0, none⟩ = some (.slice ra R.length rc) ∧ w'.cell? ⟨nb, 1, none⟩ = some (.slice xa X.length xc) ∧ w'.cell? ⟨nb, 2, none⟩ = some (.int .i64 now) ∧ w'.cell? ⟨nb, 3, none⟩ = some (.slice ja J.length jc)) ∧ (w'.frozen? ⟨nb, 0, none⟩ = false ∧ w'.frozen? ⟨nb, 1, none⟩ = false ∧ w'.frozen? ⟨nb, 2, none⟩ = false ∧ w'.frozen? ⟨nb, 3, none⟩ = false)) := fun W w' hW hb => ⟨(hW.up hr hb).cells, (hW.up hr hb).free⟩
      rcases hc with rfl | rfl | rfl | rfl | rfl | rfl
      iterate 2
        · go_wp2_with fail
          refine START.out.mono ?_
          rintro e w6 ⟨a1, a2, a3, a4, a5, a6, a7, a8, rfl, h6, hb⟩
          obtain ⟨⟨d0, d1, d2, d3⟩, g0, g1, g2, g3⟩ := UPF.out w5 w6 S5.out hb
          have S6 : Hid (RD r w nb (.slice a1 R.length a2) (.slice a3 X.length a4) (.slice a5 J.length a6) now R X (jn R X J R.length) (put4 w6 nb (.slice a1 R.length a2) (.slice a3 X.length a4) (.int .i64 now) (.slice a5 J.length a6))) := h6
          clear h6 hb
          go_wp2_with fail
          go_roundw
          case rel => exact ⟨k + 1, _, _, _, _, _, _, _, by omega, by go_num, S6⟩
          case measure => simp [intOf]; omega
      iterate 2
        · go_upto_region 14 with fail
          go_region_with (first
            | (go_at_call 23; refine (below_all r _ (S5.out.drew hr).rd J.length (by have := HLJ.out; omega) (by have := HLJ.out; omega)).mono ?_; rintro e w6 ⟨⟨u, ⟨hu1, hu2⟩, rfl⟩, k6, t6⟩; have S6 : Hid (RD r w nb (.slice ra R.length rc) (.slice xa X.length xc) (.slice ja J.length jc) now R X J w6) := (S5.out.drew hr).turn hr k6 t6; obtain ⟨p0, p1, p2, p3⟩ := S6.out.cells; have wu : IntKind.i64.wrap (1 + u) = 1 + u := IntWalk.i64_in _ (by have := HLJ.out; omega))
            | (go_at_call 24; refine (once_any r _ S6.out.rd 3 (by omega) (by omega)).mono ?_; rintro e w7 ⟨⟨b, rfl⟩, k7, t7⟩; have S7 : Hid (RD r w nb (.slice ra R.length rc) (.slice xa X.length xc) (.slice ja J.length jc) now R X J w7) := S6.out.turn hr k7 t7; obtain ⟨q0, q1, q2, q3⟩ := S7.out.cells)
            | (go_at_call 8; refine (REP.out w7 _ _ S7.out).mono ?_; rintro e w8 ⟨a1, a2, a3, a4, a5, a6, bq, J', rfl, h8, hb⟩; obtain ⟨⟨d0, d1, d2, d3⟩, g0, g1, g2, g3⟩ := UPF.out w7 w8 S7.out hb; have S8 : Hid (RD r w nb (.slice a1 R.length a2) (.slice a3 X.length a4) (.slice a5 J.length a6) now R X J' (put4 w8 nb (.slice a1 R.length a2) (.slice a3 X.length a4) (.int .i64 now) (.slice a5 J.length a6))) := h8))
          all_goals
            go_wp2_with fail
            go_roundw
            case rel => exact ⟨k + 1, _, _, _, _, _, _, _, by omega, by go_num, S8⟩
            case measure => simp [intOf]; omega
      · go_upto_region 16 with fail
        go_region_with (first
          | (go_at_call 23; refine (below_all r _ (S5.out.drew hr).rd 20 (by omega) (by omega)).mono ?_; rintro e w6 ⟨⟨u, ⟨hu1, hu2⟩, rfl⟩, k6, t6⟩; have S6 : Hid (RD r w nb (.slice ra R.length rc) (.slice xa X.length xc) (.slice ja J.length jc) now R X J w6) := (S5.out.drew hr).turn hr k6 t6; obtain ⟨p0, p1, p2, p3⟩ := S6.out.cells)
          | (go_at_call 12; refine (TICK.out w6 _ (by omega) S6.out).mono ?_; rintro e w8 ⟨a1, a2, a3, a4, a5, a6, now', a7, a8, a9, rfl, h8, hb⟩; obtain ⟨⟨d0, d1, d2, d3⟩, g0, g1, g2, g3⟩ := UPF.out w6 w8 S6.out hb; have S8 : Hid (RD r w nb (.slice a1 R.length a2) (.slice a3 X.length a4) (.slice a5 J.length a6) now' R X J (put4 w8 nb (.slice a1 R.length a2) (.slice a3 X.length a4) (.int .i64 now') (.slice a5 J.length a6))) := h8))
        all_goals
          go_wp2_with fail
          go_roundw
          case rel => exact ⟨k + 1, _, _, _, _, _, _, _, by omega, by go_num, S8⟩
          case measure => simp [intOf]; omega
      · go_wp2_with fail
        refine (once_any r w5 S5.out.rd 2 (by omega) (by omega)).mono ?_
        rintro e w6 ⟨⟨b, rfl⟩, k6, t6⟩
        have S6 : Hid (RD r w nb (.slice ra R.length rc) (.slice xa X.length xc) (.slice ja J.length jc) now R X J w6) := S5.out.turn hr k6 t6
        clear k6 t6 c0 c1 c2 c3 f0 f1 f2 f3
        obtain ⟨c0, c1, c2, c3⟩ := S6.out.cells
        cases b
        · go_wp2_with fail
          go_roundw
          case rel => exact ⟨k + 1, _, _, _, _, _, _, _, by omega, by go_num, S6⟩
          case measure => simp [intOf]; omega
        · go_wp2_with fail
          refine (CRASH.out w6 S6.out).mono ?_
          rintro e w7 ⟨a1, a2, a3, a4, a5, a6, rfl, h7, hb⟩
          obtain ⟨⟨d0, d1, d2, d3⟩, g0, g1, g2, g3⟩ := UPF.out w6 w7 S6.out hb
          have S7 : Hid (RD r w nb (.slice a1 R.length a2) (.slice a3 X.length a4) (.slice a5 J.length a6) now R X (crs J J.length) (put4 w7 nb (.slice a1 R.length a2) (.slice a3 X.length a4) (.int .i64 now) (.slice a5 J.length a6))) := h7
          clear h7 hb
          go_wp2_with fail
          go_roundw
          case rel => exact ⟨k + 1, _, _, _, _, _, _, _, by omega, by go_num, S7⟩
          case measure => simp [intOf]; omega
    · have i2 : ¬ (k : Int) < (n : Int) := by omega
      obtain ⟨c0, c1, c2, c3⟩ := S.out.cells
      have q0 : wr.cell? ⟨w.heap.size, 0, none⟩ = some (.slice none 0 0) := by rw [S.out.rb.cell]; rfl
      have q1 : wr.cell? ⟨w.heap.size, 1, none⟩ = some (.slice none 0 0) := by rw [S.out.rb.cell]; rfl
      have q2 : wr.cell? ⟨w.heap.size, 2, none⟩ = some (.int .i64 0) := by rw [S.out.rb.cell]; rfl
      have q3 : wr.cell? ⟨w.heap.size, 3, none⟩ = some (.slice none 0 0) := by rw [S.out.rb.cell]; rfl
      have f0 := S.out.rb.fz 0
      have f1 := S.out.rb.fz 1
      have f2 := S.out.rb.fz 2
      have f3 := S.out.rb.fz 3
      have KS : KB (fun b => b = w.heap.size) wr (put4 wr w.heap.size (.slice ra R.length rc) (.slice xa X.length xc) (.int .i64 now) (.slice ja J.length jc)) := (((kb_set wr _ 0 _).trans (kb_set _ _ 1 _)).trans (kb_set _ _ 2 _)).trans (kb_set _ _ 3 _)
      go_wp2_with fail
      refine bodyPost_ret (v := rv (.slice ra R.length rc) (.slice xa X.length xc) now (.slice ja J.length jc)) (by simp [results, Try.results40, go_sem, q0, q1, q2, q3]) rfl ⟨_, _, _, _, rfl, R, X, J, ?_, S.out.ok, ?_, ?_⟩
      · exact (mo_kb S.out.mo KS (fun b hb => .inl (by omega))).down (by omega)
      · exact Du.rd_kb S.out.rd KS (fun b hb => by omega)
      · exact Du.kb_turn hr S.out.tu KS (fun b hb => by omega)
end Go.Proofs.Ytfhpomfdkpfooaa.Ty
