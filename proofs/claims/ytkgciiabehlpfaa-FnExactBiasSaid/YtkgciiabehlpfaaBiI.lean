/- By how much reads differ in the mean: the program. -/
import Derived.Test.YtkgciiabehlpfaaBiP
namespace Go.Proofs.Ytkgciiabehlpfaa.Bi
open Go.ChangeShapes Go.WideShapes Go.ChangeAt Go.RowKit
open Go.Proofs.Ytkgciiabehlpfaa.Flt
attribute [local go_sem] Rd.run_store_float

set_option maxHeartbeats 1000000 in
theorem ibias_short (a b : Option Addr) (n m c d : Nat) (w : World) (hl : 300 < n ∨ 300 < m) (hn : n < 9223372036854775808) (hm : m < 9223372036854775808) :
    Calls Try.prog 17 #[.slice a n c, .slice b m d] w fun e w' => e = .returned (.tuple #[.float .f64 qn, .int .i64 0]) ∧ Below w.heap.size w w' := by
  rcases hl with hl | hl
  · have i1 : (300 : Int) < (n : Int) := by omega
    go_enter Try.func17, Try.ntmps17
    go_wp2_with fail
    refine (nan_any _).mono ?_
    rintro e w1 ⟨rfl, hw⟩
    subst hw
    go_wp2_with fail
    go_ret2
    exact ⟨rfl, Below.refl _ _⟩
  · have i1 : (300 : Int) < (m : Int) := by omega
    by_cases h2 : (300 : Int) < (n : Int)
    · go_enter Try.func17, Try.ntmps17
      go_wp2_with fail
      refine (nan_any _).mono ?_
      rintro e w1 ⟨rfl, hw⟩
      subst hw
      go_wp2_with fail
      go_ret2
      exact ⟨rfl, Below.refl _ _⟩
    · go_enter Try.func17, Try.ntmps17
      go_wp2_with fail
      refine (nan_any _).mono ?_
      rintro e w1 ⟨rfl, hw⟩
      subst hw
      go_wp2_with fail
      go_ret2
      exact ⟨rfl, Below.refl _ _⟩

set_option maxHeartbeats 1000000 in
theorem ibias_long (w : World) (v u : Value) (L B : Rd.Ls) (h : Rd.Reads w v L) (h' : Rd.Reads w u B) (hl : L.length ≤ 300) (hl' : B.length ≤ 300) (hk : Oks L) (hk' : Oks B) :
    Calls Try.prog 17 #[v, u] w fun e w' => ∃ r, e = .returned (.tuple #[.float .f64 r, .int .i64 (bias L B).2]) ∧ cn r = (bias L B).1 ∧ Below w.heap.size w w' := by
  have HF := h.fits
  have HF' := h'.fits
  have hcell : ∃ b o, (∀ i, i < L.length → Rd.Cs w b o L i) ∧ (0 < L.length → b < w.heap.size ∧ ∃ cap, v = .slice (some ⟨b, o, none⟩) L.length cap) := by
    rcases h with ⟨rfl, _⟩ | ⟨b, o, cap, h1, h2, h3, h4, h5⟩
    · exact ⟨0, 0, fun i hi => by simp at hi, fun hi => by simp at hi⟩
    · exact ⟨b, o, h5, fun _ => ⟨h4, cap, h1⟩⟩
  obtain ⟨b, o, hc, hv⟩ := hcell
  obtain ⟨a, cap, rfl⟩ := h.form
  obtain ⟨a', cap', rfl⟩ := h'.form
  have FA : Hid (Calls Try.prog 26 #[.slice a' B.length cap'] w fun e w' => e = .returned (.map (some w.heap.size)) ∧ FM w' w.heap.size 300 B ∧ Below w.heap.size w w') := first_any w _ B h' hl' hk'
  have HC : Hid (∀ i, i < L.length → Rd.Cs w b o L i) := hc
  have HK : Hid (Oks L) := hk
  have HK' : Hid (∀ s t y, fst B s t = some y → y < 18446744073709551616) := fun s t y h => fst_fit hk' h
  have HV : Hid (0 < L.length → b < w.heap.size ∧ a = some ⟨b, o, none⟩) := fun hi => by
    obtain ⟨h1, c, h2⟩ := hv hi
    simp at h2
    exact ⟨h1, h2.1⟩
  have HR : Hid ((bst L B L.length).2 ≠ 0 → bias L B = (opF .quo (bst L B L.length).1 (cn (floatOfInt .f64 ((bst L B L.length).2 : Int))), ((bst L B L.length).2 : Int))) := fun h => bias_yes ⟨hl, hl', h⟩
  have HZ : Hid ((bst L B L.length).2 = 0 → bias L B = (qn, 0)) := fun h => bias_no (by omega)
  obtain ⟨n, hn⟩ : ∃ n, n = L.length := ⟨_, rfl⟩
  obtain ⟨m, hm⟩ : ∃ m, m = B.length := ⟨_, rfl⟩
  rw [← hn] at hl HF HR HZ ⊢
  rw [← hm] at hl' HF' FA ⊢
  have HN : Hid (n = L.length) := hn
  have j1 : ¬ (300 : Int) < (n : Int) := by omega
  have j2 : ¬ (300 : Int) < (m : Int) := by omega
  have hA : ∀ x y w, (binOp .add 35 (.float .f64 x) (.float .f64 y)).run Try.prog w = .ok (.float .f64 (opB .add x y w)) (w.drewN (opD .add x y)) := fun x y w => run_op Try.prog .add arAdd 35 x y w
  have hS : ∀ x y w, (binOp .sub 35 (.float .f64 x) (.float .f64 y)).run Try.prog w = .ok (.float .f64 (opB .sub x y w)) (w.drewN (opD .sub x y)) := fun x y w => run_op Try.prog .sub arSub 35 x y w
  have hQ : ∀ x y w, (binOp .quo 35 (.float .f64 x) (.float .f64 y)).run Try.prog w = .ok (.float .f64 (opB .quo x y w)) (w.drewN (opD .quo x y)) := fun x y w => run_op Try.prog .quo arQuo 35 x y w
  clear h h' hc hv hn hm hk hk'
  go_enter Try.func17, Try.ntmps17
  go_wp2_with fail
  refine FA.out.mono ?_
  rintro e w1 ⟨rfl, m1, b1⟩
  have M1 : Hid (FM w1 w.heap.size 300 B) := m1
  have B1 : Hid (Below w.heap.size w w1) := b1
  clear m1 b1 FA
  go_wp2_with fail
  go_loopw [7, 8, 26] (fun x c i wr => ∃ k f : Nat, k ≤ n ∧ i = .int .i64 k ∧ x = .float .f64 f ∧ c = .int .i64 ((bst L B k).2 : Int) ∧ Hid (cn f = (bst L B k).1) ∧ Hid (FM wr w.heap.size 300 B) ∧ Hid (Below w.heap.size w wr)) (fun _ _ i _ => n - (intOf i).toNat)
  case atStart => exact ⟨0, 0, Nat.zero_le _, rfl, rfl, rfl, (by show cn 0 = 0; decide +kernel), M1, B1⟩
  case round =>
    obtain ⟨k, f, hk, rfl, rfl, rfl, CF, M, BB⟩ := hrel
    have bl := bst_le L B k
    by_cases hlt : k < n
    · have hkl : k < L.length := by have := HN.out; omega
      obtain ⟨hb, hx⟩ := HV.out (by omega)
      subst hx
      obtain ⟨q0, q1, q2⟩ : Rd.Cs wr b o L k := (HC.out k hkl).below BB.out hb
      obtain ⟨k0, k1, k2⟩ := HK.out k hkl
      have K0 : Hid (ok (Rd.c0 L k)) := k0
      have K1 : Hid (ok (Rd.c1 L k)) := k1
      have K2 : Hid (Rd.c2 L k < 18446744073709551616) := k2
      have HI : Hid (hit L B k = match fst B (Rd.c0 L k) (Rd.c1 L k) with | some y => if kn (Rd.c2 L k) = true ∧ kn y = true then some y else none | none => none) := rfl
      have HY : Hid (∀ y, hit L B k = some y → bst L B (k + 1) = (opF .add (bst L B k).1 (opF .sub (cn (Rd.c2 L k)) (cn y)), (bst L B k).2 + 1)) := fun y h => bst_yes h
      have HO : Hid (hit L B k = none → bst L B (k + 1) = bst L B k) := fun h => bst_no h
      have i1 : (0 : Int) ≤ (k : Int) := by omega
      have i2 : (k : Int) < (n : Int) := by omega
      have i3 : IntKind.i64.wrap (((bst L B k).2 : Int) + 1) = ((bst L B k).2 : Int) + 1 := IntWalk.i64_in _ (by omega)
      have zr := BB.out.size
      have zm := M.out.lt
      clear k0 k1 k2 bl
      generalize Rd.c0 L k = x0 at *
      generalize Rd.c1 L k = x1 at *
      generalize Rd.c2 L k = x2 at *
      generalize hit L B k = H at *
      generalize hbk : bst L B k = S at *
      obtain ⟨s1, s2⟩ := S
      dsimp only at *
      clear hbk
      go_wp2_with fail
      refine (spot_any _ _ _ _).mono ?_
      rintro e w2 ⟨rfl, hb1⟩
      have z1 := hb1.size
      simp at z1
      have M1 : Hid (FM w2 w.heap.size 300 B) := (M.out.alloc _).on hb1 (by simp; omega)
      have B1 : Hid (Below w.heap.size w w2) := (BB.out.alloc BB.out.size _).trans (hb1.mono (by simp; omega))
      have e2 : w2.cell? ⟨wr.heap.size, 2, none⟩ = some (.float .f64 x2) := (hb1.cell (p := ⟨wr.heap.size, 2, none⟩) (by simp)).trans (by simp [go_sem])
      have hlk := M1.out.look x0 x1 K0.out K1.out
      clear hb1 M BB q0 q1 q2
      cases hf : fst B x0 x1 with
      | none =>
        rw [hf] at hlk
        have hlk' : (Instr.lookup 53 (.map (some w.heap.size)) (sp x0 x1) true).run Try.prog w2 = .ok (.tuple #[.float .f64 0, .bool false]) w2 := hlk
        have HE : Hid (bst L B (k + 1) = (s1, s2)) := HO.out (by rw [HI.out, hf])
        clear hlk hf
        go_wp2_with fail
        go_roundw
        case rel => exact ⟨k + 1, f, by omega, by go_num, rfl, by rw [HE.out], (by show _ = _; rw [HE.out]; exact CF.out), M1, B1⟩
        case measure => simp [intOf]; omega
      | some y =>
        rw [hf] at hlk
        have hlk' : (Instr.lookup 53 (.map (some w.heap.size)) (sp x0 x1) true).run Try.prog w2 = .ok (.tuple #[.float .f64 y, .bool true]) w2 := hlk
        have HYY : Hid (y < 18446744073709551616) := HK'.out _ _ _ hf
        have HI2 : Hid (H = if kn x2 = true ∧ kn y = true then some y else none) := (by show _ = _; rw [HI.out, hf])
        clear hlk hf HI
        cases c1 : kn x2 with
        | false =>
          have C1 : Hid (kn x2 = false) := c1
          have HE : Hid (bst L B (k + 1) = (s1, s2)) := HO.out (by rw [HI2.out, if_neg (by simp [c1])])
          clear c1
          go_wp2_with fail
          refine (iknown _ _ K2.out).mono ?_
          rintro e w3 ⟨rfl, hw3⟩
          subst hw3
          rw [C1.out]
          go_wp2_with fail
          go_roundw
          case rel => exact ⟨k + 1, f, by omega, by go_num, rfl, by rw [HE.out], (by show _ = _; rw [HE.out]; exact CF.out), M1, B1⟩
          case measure => simp [intOf]; omega
        | true =>
          have C1 : Hid (kn x2 = true) := c1
          cases c2 : kn y with
          | false =>
            have C2 : Hid (kn y = false) := c2
            have HE : Hid (bst L B (k + 1) = (s1, s2)) := HO.out (by rw [HI2.out, if_neg (by simp [c2])])
            clear c1 c2
            go_wp2_with fail
            refine (iknown _ _ K2.out).mono ?_
            rintro e w3 ⟨rfl, hw3⟩
            subst hw3
            rw [C1.out]
            go_wp2_with fail
            refine (iknown _ _ HYY.out).mono ?_
            rintro e w4 ⟨rfl, hw4⟩
            subst hw4
            rw [C2.out]
            go_wp2_with fail
            go_roundw
            case rel => exact ⟨k + 1, f, by omega, by go_num, rfl, by rw [HE.out], (by show _ = _; rw [HE.out]; exact CF.out), M1, B1⟩
            case measure => simp [intOf]; omega
          | true =>
            have C2 : Hid (kn y = true) := c2
            have HE : Hid (bst L B (k + 1) = (opF .add s1 (opF .sub (cn x2) (cn y)), s2 + 1)) := HY.out y (by rw [HI2.out, if_pos ⟨c1, c2⟩])
            clear c1 c2
            go_wp2_with fail
            refine (iknown _ _ K2.out).mono ?_
            rintro e w3 ⟨rfl, hw3⟩
            subst hw3
            rw [C1.out]
            go_wp2_with fail
            refine (iknown _ _ HYY.out).mono ?_
            rintro e w4 ⟨rfl, hw4⟩
            subst hw4
            rw [C2.out]
            go_wp2_with fail
            go_roundw
            case rel => exact ⟨k + 1, _, by omega, by go_num, rfl, by rw [HE.out]; rfl, (by show _ = _; rw [HE.out, cn_op, cn_op, CF.out]), M1.out, below_drewN B1.out _⟩
            case measure => simp [intOf]; omega
    · have hkn : k = n := by omega
      subst hkn
      have j5 : IntKind.i64.wrap ((bst L B k).2 : Int) = ((bst L B k).2 : Int) := IntWalk.i64_in _ (by omega)
      by_cases hz : (bst L B k).2 = 0
      · have HB : Hid (bias L B = (qn, 0)) := HZ.out hz
        have hz' : ((bst L B k).2 : Int) = 0 := by omega
        go_wp2_with fail
        refine (nan_any _).mono ?_
        rintro e w3 ⟨rfl, hw3⟩
        subst hw3
        go_wp2_with fail
        go_ret2
        exact ⟨qn, by rw [HB.out]; rfl, by rw [HB.out]; decide +kernel, BB.out⟩
      · have HB := HR.out hz
        have HB' : Hid (bias L B = (opF .quo (bst L B k).1 (cn (floatOfInt .f64 ((bst L B k).2 : Int))), ((bst L B k).2 : Int))) := HB
        have hz' : ((bst L B k).2 : Int) ≠ 0 := by omega
        clear HB
        generalize bst L B k = S at *
        obtain ⟨s1, s2⟩ := S
        dsimp only at *
        go_wp2_with fail
        go_ret2
        exact ⟨opB .quo f (floatOfInt .f64 (s2 : Int)) wr, by rw [HB'.out]; rfl, by rw [HB'.out, cn_op, CF.out], below_drewN BB.out _⟩
end Go.Proofs.Ytkgciiabehlpfaa.Bi
