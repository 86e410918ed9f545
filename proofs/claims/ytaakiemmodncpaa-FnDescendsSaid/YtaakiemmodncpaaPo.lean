/- Whether a problem is right: the model and the program. -/
import Derived.Test.YtaakiemmodncpaaPb
import Derived.Test.YtaakiemmodncpaaAlA
namespace Go.Proofs.Ytaakiemmodncpaa.Po
open Go.ChangeShapes Go.WideShapes Go.ChangeAt Go.RowKit
open Go.Proofs.Ytaakiemmodncpaa.Lists Go.Proofs.Ytaakiemmodncpaa.Al

theorem below_drewN {B : Nat} {a w : World} (h : Below B a w) (n : Nat) : Below B a (w.drewN n) := h.trans ⟨rfl, rfl, rfl, Nat.le_refl _, fun _ _ => rfl⟩
def rok (n : Int) (R : Rw.Ls) (i : Nat) : Bool := nums (Rw.cl R i) n (-5) 5 && (inn (Rw.cz R i 1) (-500) 500 && inn (Rw.cz R i 2) 1 5)
def roks (n : Int) (R : Rw.Ls) : Bool := decide (R.length ≤ 20) && (List.range R.length).all (rok n R)
def okP (n : Int) (G T : List Int) (R : Rw.Ls) : Bool := inn n 1 6 && (nums G n (-500) 500 && (nums T n 1 5 && roks n R))
theorem roks_no {n : Int} {R : Rw.Ls} {k : Nat} (hk : k < R.length) (h : rok n R k = false) : roks n R = false := by
  unfold roks
  have : (List.range R.length).all (rok n R) = false := by
    rw [List.all_eq_false]
    exact ⟨k, List.mem_range.2 hk, by simp [h]⟩
  rw [this]
  simp
theorem roks_long {n : Int} {R : Rw.Ls} (h : 20 < R.length) : roks n R = false := by
  unfold roks
  rw [decide_eq_false (by omega)]
  rfl
theorem roks_yes {n : Int} {R : Rw.Ls} (h2 : R.length ≤ 20) (h : ∀ j, j < R.length → rok n R j = true) : roks n R = true := by
  unfold roks
  have : (List.range R.length).all (rok n R) = true := by
    rw [List.all_eq_true]
    intro x hx
    exact h x (List.mem_range.1 hx)
  rw [this]
  simp
  omega
theorem rows_at {w : World} {v : Value} {L : Rw.Ls} (h : Rw.Reads w v L) : ∃ b o, (∀ i, i < L.length → Rw.Cs w b o L i) ∧ (0 < L.length → b < w.heap.size ∧ ∃ cap, v = .slice (some ⟨b, o, none⟩) L.length cap) := by
  rcases h with ⟨rfl, _⟩ | ⟨b, o, cap, h1, h2, h3, h4, h5⟩
  · exact ⟨0, 0, fun i hi => by simp at hi, fun hi => by simp at hi⟩
  · exact ⟨b, o, h5, fun _ => ⟨h4, cap, h1⟩⟩
structure Ok (n : Int) (G T : List Int) (R : Rw.Ls) : Prop where
  n1 : 1 ≤ n
  n6 : n ≤ 6
  nG : (G.length : Int) = n
  nT : (T.length : Int) = n
  nR : R.length ≤ 20
  gb : ∀ j, j < G.length → -500 ≤ G.getD j 0 ∧ G.getD j 0 ≤ 500
  tb : ∀ j, j < T.length → 1 ≤ T.getD j 0 ∧ T.getD j 0 ≤ 5
  nH : ∀ i, i < R.length → ((Rw.cl R i).length : Int) = n
  hb : ∀ i, i < R.length → ∀ j, j < (Rw.cl R i).length → -5 ≤ (Rw.cl R i).getD j 0 ∧ (Rw.cl R i).getD j 0 ≤ 5
  yb : ∀ i, i < R.length → -500 ≤ Rw.cz R i 1 ∧ Rw.cz R i 1 ≤ 500
  wb : ∀ i, i < R.length → 1 ≤ Rw.cz R i 2 ∧ Rw.cz R i 2 ≤ 5
theorem ok_of {n : Int} {G T : List Int} {R : Rw.Ls} (h : okP n G T R = true) : Ok n G T R := by
  unfold okP roks at h
  rw [Bool.and_eq_true, Bool.and_eq_true, Bool.and_eq_true, Bool.and_eq_true, inn_iff, decide_eq_true_eq, List.all_eq_true] at h
  obtain ⟨⟨a1, a2⟩, a3, a4, a5, a6⟩ := h
  have a3' := nums_parts a3
  have a4' := nums_parts a4
  have a7 : ∀ i, i < R.length → nums (Rw.cl R i) n (-5) 5 = true ∧ (-500 ≤ Rw.cz R i 1 ∧ Rw.cz R i 1 ≤ 500) ∧ 1 ≤ Rw.cz R i 2 ∧ Rw.cz R i 2 ≤ 5 := fun i hi => by
    have := a6 i (List.mem_range.2 hi)
    unfold rok at this
    rw [Bool.and_eq_true, Bool.and_eq_true, inn_iff, inn_iff] at this
    exact this
  exact ⟨a1, a2, a3'.1, a4'.1, a5, a3'.2, a4'.2, fun i hi => (nums_parts (a7 i hi).1).1, fun i hi => (nums_parts (a7 i hi).1).2, fun i hi => (a7 i hi).2.1, fun i hi => (a7 i hi).2.2⟩

set_option maxHeartbeats 1000000 in
set_option maxRecDepth 20000 in
theorem irows (n : Int) (vg vt : Value) (R : Rw.Ls) (vr : Value) (w : World) (hR : Rw.Reads w vr R) :
    Calls Try.prog 47 #[Pb.pv n vg vt vr] w fun e w' => e = .returned (.bool (roks n R)) ∧ Below w.heap.size w w' := by
  obtain ⟨br, or, hcr, hvr⟩ := rows_at hR
  obtain ⟨sr, cr, er⟩ := hR.form
  subst er
  obtain ⟨w0, hw0⟩ : ∃ w0, w0 = w.alloc (Obj.cells #[.int .i64 n, vg, vt, .slice sr R.length cr] 32) := ⟨_, rfl⟩
  have HW0 : Hid (w0 = w.alloc (Obj.cells #[.int .i64 n, vg, vt, .slice sr R.length cr] 32)) := hw0
  have B0 : Hid (Below w.heap.size w w0) := (by show Below _ _ _; rw [hw0]; exact (Below.refl _ _).alloc (Nat.le_refl _) _)
  have Z0 : Hid (w0.heap.size = w.heap.size + 1) := (by show _ = _; rw [hw0]; simp)
  have K0 : Hid (Pb.Box w0 w.heap.size (.int .i64 n) (vg) (vt) (.slice sr R.length cr)) := (by show Pb.Box _ _ _ _ _ _; rw [hw0]; unfold Pb.Box; simp [go_sem])
  have HCR : Hid (∀ i, i < R.length → Rw.Cs w br or R i) := hcr
  have HVR : Hid (0 < R.length → br < w.heap.size ∧ sr = some ⟨br, or, none⟩) := fun hi => by
    obtain ⟨h1, c, h2⟩ := hvr hi
    simp at h2
    exact ⟨h1, h2.1⟩
  have rf := hR.fits
  obtain ⟨bo, hbo⟩ : ∃ bo, roks n R = bo := ⟨_, rfl⟩
  have HO : Hid (roks n R = bo) := hbo
  rw [hbo]
  obtain ⟨nr, hnr⟩ : ∃ nr, nr = R.length := ⟨_, rfl⟩
  have HN : Hid (nr = R.length) := hnr
  rw [← hnr] at HW0 K0 rf ⊢
  clear hR hcr hvr hw0 hbo hnr
  obtain ⟨k0, k1, k2, k3⟩ := K0.out
  by_cases long : 20 < nr
  · have i1 : (20 : Int) < (nr : Int) := by omega
    have HF : Hid (bo = false) := (by show _ = _; rw [← HO.out]; exact roks_long (by have := HN.out; omega))
    go_enter Try.func47, Try.ntmps47
    go_wp2_with fail
    rw [← HW0.out]
    go_ret
    exact ⟨by rw [HF.out]; rfl, B0.out⟩
  · have i1 : ¬ (20 : Int) < (nr : Int) := by omega
    go_enter Try.func47, Try.ntmps47
    go_wp2_with fail
    rw [← HW0.out]
    go_loopw [12] (fun i wr => ∃ k : Nat, k ≤ nr ∧ i = .int .i64 k ∧ Hid (∀ j, j < k → rok n R j = true) ∧ Hid (Below w0.heap.size w0 wr)) (fun i _ => nr - (intOf i).toNat)
    case atStart => exact ⟨0, by omega, rfl, fun j hj => by omega, Below.refl _ _⟩
    case round =>
      obtain ⟨k, hk, rfl, OK, BB⟩ := hrel
      clear k0 k1 k2 k3
      have z0 := Z0.out
      have zr := BB.out.size
      have KR : Hid (Pb.Box wr w.heap.size (.int .i64 n) (vg) (vt) (.slice sr nr cr)) := K0.out.on BB.out (by omega)
      obtain ⟨k0, k1, k2, k3⟩ := KR.out
      by_cases hlt : k < nr
      · have hkl : k < R.length := by rw [← HN.out]; exact hlt
        obtain ⟨hb, hx⟩ := HVR.out (by omega)
        subst hx
        obtain ⟨q1, q2, u, q0, ru⟩ : Rw.Cs wr br or R k := ((HCR.out k hkl).on B0.out hb).on BB.out (by omega)
        obtain ⟨su, cu, eu⟩ := ru.form
        subst eu
        obtain ⟨w2, hw2⟩ : ∃ x, x = wr.alloc (Obj.cells #[.slice su (Rw.cl R k).length cu, .int .i64 (Rw.cz R k 1), .int .i64 (Rw.cz R k 2)] 51) := ⟨_, rfl⟩
        have HW2 : Hid (w2 = wr.alloc (Obj.cells #[.slice su (Rw.cl R k).length cu, .int .i64 (Rw.cz R k 1), .int .i64 (Rw.cz R k 2)] 51)) := hw2
        have b2 : Below wr.heap.size wr w2 := by rw [hw2]; exact (Below.refl _ _).alloc (Nat.le_refl _) _
        have B2 : Hid (Below w0.heap.size w0 w2) := BB.out.trans (b2.mono zr)
        have X2 : Rw1.Box w2 wr.heap.size (.slice su (Rw.cl R k).length cu) (.int .i64 (Rw.cz R k 1)) (.int .i64 (Rw.cz R k 2)) := by rw [hw2]; unfold Rw1.Box; simp [go_sem]
        have K2 : Pb.Box w2 w.heap.size (.int .i64 n) (vg) (vt) (.slice (some ⟨br, or, none⟩) nr cr) := KR.out.on b2 (by omega)
        obtain ⟨x0, x1, x2⟩ := X2
        obtain ⟨y0, y1, y2, y3⟩ := K2
        have D1 : Hid (Calls Try.prog 46 #[.slice su (Rw.cl R k).length cu, .int .i64 n, .int .i64 (-5), .int .i64 5] w2 fun e w' => e = .returned (.bool (nums (Rw.cl R k) n (-5) 5)) ∧ w' = w2) := inums_any (Rw.cl R k) _ _ _ _ w2 (ru.on b2) (Rw.lfits ru)
        have D2 : Hid (∀ w, Calls Try.prog 32 #[.int .i64 (Rw.cz R k 1), .int .i64 (-500), .int .i64 500] w fun e w' => e = .returned (.bool (inn (Rw.cz R k 1) (-500) 500)) ∧ w' = w) := fun w => i_in _ _ _ w
        have D3 : Hid (∀ w, Calls Try.prog 32 #[.int .i64 (Rw.cz R k 2), .int .i64 1, .int .i64 5] w fun e w' => e = .returned (.bool (inn (Rw.cz R k 2) 1 5)) ∧ w' = w) := fun w => i_in _ _ _ w
        have HR : Hid (rok n R k = (nums (Rw.cl R k) n (-5) 5 && (inn (Rw.cz R k 1) (-500) 500 && inn (Rw.cz R k 2) 1 5))) := rfl
        have HF : Hid (rok n R k = false → bo = false) := fun h => by rw [← HO.out]; exact roks_no hkl h
        have BW : Hid (Below w.heap.size w w2) := B0.out.trans (B2.out.mono (by omega))
        have i2 : (0 : Int) ≤ (k : Int) := by omega
        have i3 : (k : Int) < (nr : Int) := by omega
        have hs : w.heap.size < wr.heap.size := by omega
        clear hw2 b2 ru z0 zr
        generalize nums (Rw.cl R k) n (-5) 5 = c1 at *
        generalize inn (Rw.cz R k 1) (-500) 500 = c2 at *
        generalize inn (Rw.cz R k 2) 1 5 = c3 at *
        generalize (Rw.cl R k).length = lh at *
        generalize Rw.cz R k 1 = zy at *
        generalize Rw.cz R k 2 = zw at *
        cases c1
        · go_wp2_with fail
          rw [← HW2.out]
          refine D1.out.mono ?_
          rintro e w5 ⟨rfl, hw⟩
          subst hw
          go_wp2_with fail
          go_ret
          exact ⟨by rw [HF.out (by rw [HR.out]; rfl)]; rfl, BW.out⟩
        cases c2
        · go_wp2_with fail
          rw [← HW2.out]
          refine D1.out.mono ?_
          rintro e w5 ⟨rfl, hw⟩
          subst hw
          go_wp2_with fail
          refine (D2.out _).mono ?_
          rintro e w6 ⟨rfl, hw⟩
          subst hw
          go_wp2_with fail
          go_ret
          exact ⟨by rw [HF.out (by rw [HR.out]; rfl)]; rfl, BW.out⟩
        cases c3
        · go_wp2_with fail
          rw [← HW2.out]
          refine D1.out.mono ?_
          rintro e w5 ⟨rfl, hw⟩
          subst hw
          go_wp2_with fail
          refine (D2.out _).mono ?_
          rintro e w6 ⟨rfl, hw⟩
          subst hw
          go_wp2_with fail
          refine (D3.out _).mono ?_
          rintro e w7 ⟨rfl, hw⟩
          subst hw
          go_wp2_with fail
          go_ret
          exact ⟨by rw [HF.out (by rw [HR.out]; rfl)]; rfl, BW.out⟩
        · have OK2 : Hid (∀ j, j < k + 1 → rok n R j = true) := fun j hj => by
            by_cases e : j = k
            · rw [e, HR.out]; rfl
            · exact OK.out j (by omega)
          go_wp2_with fail
          rw [← HW2.out]
          refine D1.out.mono ?_
          rintro e w5 ⟨rfl, hw⟩
          subst hw
          go_wp2_with fail
          refine (D2.out _).mono ?_
          rintro e w6 ⟨rfl, hw⟩
          subst hw
          go_wp2_with fail
          refine (D3.out _).mono ?_
          rintro e w7 ⟨rfl, hw⟩
          subst hw
          go_wp2_with fail
          go_roundw
          case rel => exact ⟨k + 1, by omega, by go_num, OK2, B2.out⟩
          case measure => simp [intOf]; omega
      · have HT : Hid (bo = true) := (by
          show _ = _
          rw [← HO.out]
          have := HN.out
          exact roks_yes (by omega) (fun j hj => OK.out j (by omega)))
        have BW : Hid (Below w.heap.size w wr) := B0.out.trans (BB.out.mono (by omega))
        clear z0 zr
        go_wp2_with fail
        go_ret
        exact ⟨by rw [HT.out]; rfl, BW.out⟩

set_option maxHeartbeats 1000000 in
set_option maxRecDepth 20000 in
theorem srows (n : Int) (vg vt : Value) (R : Rw.Ls) (vr : Value) (w : World) (hR : Rw.Reads w vr R) (G T : List Int) (hG : Lists.Reads w vg G) (hT : Lists.Reads w vt T) (b1 : inn n 1 6 = true) (b2 : nums G n (-500) 500 = true) (b3 : nums T n 1 5 = true) :
    Calls Try.prog 24 #[Pb.pv n vg vt vr] w fun e w' => e = .returned (.bool (roks n R)) ∧ Below w.heap.size w w' := by
  obtain ⟨br, or, hcr, hvr⟩ := rows_at hR
  obtain ⟨sr, cr, er⟩ := hR.form
  subst er
  obtain ⟨sg, cg, eg⟩ := hG.form
  obtain ⟨st, ct, et⟩ := hT.form
  subst eg et
  obtain ⟨w0, hw0⟩ : ∃ w0, w0 = w.alloc (Obj.cells #[.int .i64 n, .slice sg G.length cg, .slice st T.length ct, .slice sr R.length cr] 32) := ⟨_, rfl⟩
  have HW0 : Hid (w0 = w.alloc (Obj.cells #[.int .i64 n, .slice sg G.length cg, .slice st T.length ct, .slice sr R.length cr] 32)) := hw0
  have B0 : Hid (Below w.heap.size w w0) := (by show Below _ _ _; rw [hw0]; exact (Below.refl _ _).alloc (Nat.le_refl _) _)
  have Z0 : Hid (w0.heap.size = w.heap.size + 1) := (by show _ = _; rw [hw0]; simp)
  have K0 : Hid (Pb.Box w0 w.heap.size (.int .i64 n) (.slice sg G.length cg) (.slice st T.length ct) (.slice sr R.length cr)) := (by show Pb.Box _ _ _ _ _ _; rw [hw0]; unfold Pb.Box; simp [go_sem])
  have HCR : Hid (∀ i, i < R.length → Rw.Cs w br or R i) := hcr
  have HVR : Hid (0 < R.length → br < w.heap.size ∧ sr = some ⟨br, or, none⟩) := fun hi => by
    obtain ⟨h1, c, h2⟩ := hvr hi
    simp at h2
    exact ⟨h1, h2.1⟩
  have C1 : Hid (∀ w, Calls Try.prog 26 #[.int .i64 n, .int .i64 1, .int .i64 6] w fun e w' => e = .returned (.bool true) ∧ w' = w) := fun w => by rw [← b1]; exact s_in _ _ _ w
  have C2 : Hid (Calls Try.prog 25 #[.slice sg G.length cg, .int .i64 n, .int .i64 (-500), .int .i64 500] w0 fun e w' => e = .returned (.bool true) ∧ ∃ m, w' = w0.drewN m) := by rw [← b2]; exact sall_any G _ _ _ _ w0 (hG.on B0.out) (Rw.lfits hG)
  have C3 : Hid (∀ m, Calls Try.prog 25 #[.slice st T.length ct, .int .i64 n, .int .i64 1, .int .i64 5] (w0.drewN m) fun e w' => e = .returned (.bool true) ∧ ∃ m', w' = (w0.drewN m).drewN m') := fun m => by rw [← b3]; exact sall_any T _ _ _ _ _ (hT.on (below_drewN B0.out m)) (Rw.lfits hT)
  have rf := hR.fits
  obtain ⟨bo, hbo⟩ : ∃ bo, roks n R = bo := ⟨_, rfl⟩
  have HO : Hid (roks n R = bo) := hbo
  rw [hbo]
  obtain ⟨nr, hnr⟩ : ∃ nr, nr = R.length := ⟨_, rfl⟩
  have HN : Hid (nr = R.length) := hnr
  rw [← hnr] at HW0 K0 rf ⊢
  clear hR hcr hvr hw0 hbo hnr hG hT b1 b2 b3
  generalize G.length = ng at *
  generalize T.length = nt at *
  obtain ⟨k0, k1, k2, k3⟩ := K0.out
  by_cases long : 20 < nr
  · have i1 : (20 : Int) < (nr : Int) := by omega
    have HF : Hid (bo = false) := (by show _ = _; rw [← HO.out]; exact roks_long (by have := HN.out; omega))
    go_enter Try.func24, Try.ntmps24
    go_wp2_with fail
    rw [← HW0.out]
    refine (C1.out _).mono ?_
    rintro e w1 ⟨rfl, hw⟩
    have hw' := hw.symm
    subst hw'
    go_wp2_with fail
    refine C2.out.mono ?_
    rintro e w2 ⟨rfl, m2, rfl⟩
    go_wp2_with fail
    refine (C3.out _).mono ?_
    rintro e w3 ⟨rfl, m3, rfl⟩
    go_wp2_with fail
    go_ret
    exact ⟨by rw [HF.out]; rfl, below_drewN B0.out _⟩
  · have i1 : ¬ (20 : Int) < (nr : Int) := by omega
    go_enter Try.func24, Try.ntmps24
    go_wp2_with fail
    rw [← HW0.out]
    refine (C1.out _).mono ?_
    rintro e w1 ⟨rfl, hw⟩
    have hw' := hw.symm
    subst hw'
    go_wp2_with fail
    refine C2.out.mono ?_
    rintro e w2 ⟨rfl, m2, rfl⟩
    go_wp2_with fail
    refine (C3.out _).mono ?_
    rintro e w3 ⟨rfl, m3, rfl⟩
    go_wp2_with fail
    go_loopw [3] (fun i wr => ∃ k : Nat, k ≤ nr ∧ i = .int .i64 k ∧ Hid (∀ j, j < k → rok n R j = true) ∧ Hid (Below w0.heap.size w0 wr)) (fun i _ => nr - (intOf i).toNat)
    case atStart => exact ⟨0, by omega, rfl, fun j hj => by omega, below_drewN (Below.refl _ _) _⟩
    case round =>
      obtain ⟨k, hk, rfl, OK, BB⟩ := hrel
      clear k0 k1 k2 k3
      have z0 := Z0.out
      have zr := BB.out.size
      have KR : Hid (Pb.Box wr w.heap.size (.int .i64 n) (.slice sg ng cg) (.slice st nt ct) (.slice sr nr cr)) := K0.out.on BB.out (by omega)
      obtain ⟨k0, k1, k2, k3⟩ := KR.out
      by_cases hlt : k < nr
      · have hkl : k < R.length := by rw [← HN.out]; exact hlt
        obtain ⟨hb, hx⟩ := HVR.out (by omega)
        subst hx
        obtain ⟨q1, q2, u, q0, ru⟩ : Rw.Cs wr br or R k := ((HCR.out k hkl).on B0.out hb).on BB.out (by omega)
        obtain ⟨su, cu, eu⟩ := ru.form
        subst eu
        obtain ⟨w2, hw2⟩ : ∃ x, x = wr.alloc (Obj.cells #[.slice su (Rw.cl R k).length cu, .int .i64 (Rw.cz R k 1), .int .i64 (Rw.cz R k 2)] 51) := ⟨_, rfl⟩
        have HW2 : Hid (w2 = wr.alloc (Obj.cells #[.slice su (Rw.cl R k).length cu, .int .i64 (Rw.cz R k 1), .int .i64 (Rw.cz R k 2)] 51)) := hw2
        have b2 : Below wr.heap.size wr w2 := by rw [hw2]; exact (Below.refl _ _).alloc (Nat.le_refl _) _
        have B2 : Hid (Below w0.heap.size w0 w2) := BB.out.trans (b2.mono zr)
        have X2 : Rw1.Box w2 wr.heap.size (.slice su (Rw.cl R k).length cu) (.int .i64 (Rw.cz R k 1)) (.int .i64 (Rw.cz R k 2)) := by rw [hw2]; unfold Rw1.Box; simp [go_sem]
        have K2 : Pb.Box w2 w.heap.size (.int .i64 n) (.slice sg ng cg) (.slice st nt ct) (.slice (some ⟨br, or, none⟩) nr cr) := KR.out.on b2 (by omega)
        obtain ⟨x0, x1, x2⟩ := X2
        obtain ⟨y0, y1, y2, y3⟩ := K2
        have D1 : Hid (Calls Try.prog 25 #[.slice su (Rw.cl R k).length cu, .int .i64 n, .int .i64 (-5), .int .i64 5] w2 fun e w' => e = .returned (.bool (nums (Rw.cl R k) n (-5) 5)) ∧ ∃ m, w' = w2.drewN m) := sall_any (Rw.cl R k) _ _ _ _ w2 (ru.on b2) (Rw.lfits ru)
        have D2 : Hid (∀ w, Calls Try.prog 26 #[.int .i64 (Rw.cz R k 1), .int .i64 (-500), .int .i64 500] w fun e w' => e = .returned (.bool (inn (Rw.cz R k 1) (-500) 500)) ∧ w' = w) := fun w => s_in _ _ _ w
        have D3 : Hid (∀ w, Calls Try.prog 26 #[.int .i64 (Rw.cz R k 2), .int .i64 1, .int .i64 5] w fun e w' => e = .returned (.bool (inn (Rw.cz R k 2) 1 5)) ∧ w' = w) := fun w => s_in _ _ _ w
        have HR : Hid (rok n R k = (nums (Rw.cl R k) n (-5) 5 && (inn (Rw.cz R k 1) (-500) 500 && inn (Rw.cz R k 2) 1 5))) := rfl
        have HF : Hid (rok n R k = false → bo = false) := fun h => by rw [← HO.out]; exact roks_no hkl h
        have BW : Hid (Below w.heap.size w w2) := B0.out.trans (B2.out.mono (by omega))
        have i2 : (0 : Int) ≤ (k : Int) := by omega
        have i3 : (k : Int) < (nr : Int) := by omega
        have hs : w.heap.size < wr.heap.size := by omega
        clear hw2 b2 ru z0 zr
        generalize nums (Rw.cl R k) n (-5) 5 = c1 at *
        generalize inn (Rw.cz R k 1) (-500) 500 = c2 at *
        generalize inn (Rw.cz R k 2) 1 5 = c3 at *
        generalize (Rw.cl R k).length = lh at *
        generalize Rw.cz R k 1 = zy at *
        generalize Rw.cz R k 2 = zw at *
        cases c1
        · go_wp2_with fail
          rw [← HW2.out]
          refine D1.out.mono ?_
          rintro e w5 ⟨rfl, m5, rfl⟩
          go_wp2_with fail
          go_ret
          exact ⟨by rw [HF.out (by rw [HR.out]; rfl)]; rfl, below_drewN BW.out _⟩
        cases c2
        · go_wp2_with fail
          rw [← HW2.out]
          refine D1.out.mono ?_
          rintro e w5 ⟨rfl, m5, rfl⟩
          go_wp2_with fail
          refine (D2.out _).mono ?_
          rintro e w6 ⟨rfl, hw⟩
          subst hw
          go_wp2_with fail
          go_ret
          exact ⟨by rw [HF.out (by rw [HR.out]; rfl)]; rfl, below_drewN BW.out _⟩
        cases c3
        · go_wp2_with fail
          rw [← HW2.out]
          refine D1.out.mono ?_
          rintro e w5 ⟨rfl, m5, rfl⟩
          go_wp2_with fail
          refine (D2.out _).mono ?_
          rintro e w6 ⟨rfl, hw⟩
          subst hw
          go_wp2_with fail
          refine (D3.out _).mono ?_
          rintro e w7 ⟨rfl, hw⟩
          subst hw
          go_wp2_with fail
          go_ret
          exact ⟨by rw [HF.out (by rw [HR.out]; rfl)]; rfl, below_drewN BW.out _⟩
        · have OK2 : Hid (∀ j, j < k + 1 → rok n R j = true) := fun j hj => by
            by_cases e : j = k
            · rw [e, HR.out]; rfl
            · exact OK.out j (by omega)
          go_wp2_with fail
          rw [← HW2.out]
          refine D1.out.mono ?_
          rintro e w5 ⟨rfl, m5, rfl⟩
          go_wp2_with fail
          refine (D2.out _).mono ?_
          rintro e w6 ⟨rfl, hw⟩
          subst hw
          go_wp2_with fail
          refine (D3.out _).mono ?_
          rintro e w7 ⟨rfl, hw⟩
          subst hw
          go_wp2_with fail
          go_roundw
          case rel => exact ⟨k + 1, by omega, by go_num, OK2, below_drewN B2.out _⟩
          case measure => simp [intOf]; omega
      · have HT : Hid (bo = true) := (by
          show _ = _
          rw [← HO.out]
          have := HN.out
          exact roks_yes (by omega) (fun j hj => OK.out j (by omega)))
        have BW : Hid (Below w.heap.size w wr) := B0.out.trans (BB.out.mono (by omega))
        clear z0 zr
        go_wp2_with fail
        go_ret
        exact ⟨by rw [HT.out]; rfl, BW.out⟩
end Go.Proofs.Ytaakiemmodncpaa.Po
