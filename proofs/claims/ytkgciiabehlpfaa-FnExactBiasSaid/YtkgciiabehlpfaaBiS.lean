/- By how much reads differ in the mean: the model. -/
import Derived.Test.YtkgciiabehlpfaaBiP
namespace Go.Proofs.Ytkgciiabehlpfaa.Bi
open Go.ChangeShapes Go.WideShapes Go.ChangeAt Go.RowKit
open Go.Proofs.Ytkgciiabehlpfaa.Flt
attribute [local go_sem] Rd.run_store_float

def NB (B : Rd.Ls) (s t : Int) (j : Nat) : Prop := ∀ i, i < j → ¬ (Rd.c0 B i = s ∧ Rd.c1 B i = t)
theorem get_cs (B : Rd.Ls) (i : Nat) (h : i < B.length) : B[i] = (Rd.c0 B i, Rd.c1 B i, Rd.c2 B i) := by simp [Rd.c0, Rd.c1, Rd.c2, List.getD_eq_getElem?_getD, h]
theorem NB.next {B : Rd.Ls} {s t : Int} {j : Nat} (h : NB B s t j) (hj : ¬ (Rd.c0 B j = s ∧ Rd.c1 B j = t)) : NB B s t (j + 1) := fun i hi => by
  by_cases e : i = j
  · subst e; exact hj
  · exact h i (by omega)
theorem fst_miss {B : Rd.Ls} {s t : Int} (h : NB B s t B.length) : fst B s t = none := by
  unfold fst
  rw [List.find?_eq_none.2 ?_]; rfl
  intro z hz
  obtain ⟨i, hi, rfl⟩ := List.getElem_of_mem hz
  rw [get_cs B i hi]
  have := h i hi
  simpa using this
theorem fst_hit {B : Rd.Ls} {s t : Int} {j : Nat} (h : NB B s t j) (hj : j < B.length) (h0 : Rd.c0 B j = s) (h1 : Rd.c1 B j = t) : fst B s t = some (Rd.c2 B j) := by
  unfold fst
  have e : B = B.take j ++ (Rd.c0 B j, Rd.c1 B j, Rd.c2 B j) :: B.drop (j + 1) := by
    rw [← get_cs B j hj, ← List.drop_eq_getElem_cons hj, List.take_append_drop]
  have hn : (B.take j).find? (fun z => z.1 == s && z.2.1 == t) = none := by
    rw [List.find?_eq_none]
    intro z hz
    obtain ⟨i, hi, rfl⟩ := List.getElem_of_mem hz
    simp at hi
    rw [List.getElem_take, get_cs B i (by omega)]
    have := h i (by omega)
    simpa using this
  have key : B.find? (fun z => z.1 == s && z.2.1 == t) = some (Rd.c0 B j, Rd.c1 B j, Rd.c2 B j) := by
    conv => lhs; rw [e]
    rw [List.find?_append, hn]
    simp [h0, h1]
  rw [key]
  rfl

set_option maxRecDepth 100000 in
set_option maxHeartbeats 4000000 in
theorem sbias_long (w : World) (v u : Value) (L B : Rd.Ls) (h : Rd.Reads w v L) (h' : Rd.Reads w u B) (hl : L.length ≤ 300) (hl' : B.length ≤ 300) :
    Calls Try.prog 15 #[v, u] w fun e w' => ∃ r, e = .returned (.tuple #[.float .f64 r, .int .i64 (bias L B).2]) ∧ cn r = (bias L B).1 ∧ ∃ m, w' = w.drewN m := by
  have HF := h.fits
  have HF' := h'.fits
  have hcell : ∀ (v : Value) (L : Rd.Ls), Rd.Reads w v L → ∃ b o, (∀ i, i < L.length → Rd.Cs w b o L i) ∧ (0 < L.length → b < w.heap.size ∧ ∃ cap, v = .slice (some ⟨b, o, none⟩) L.length cap) := by
    intro v L h
    rcases h with ⟨rfl, _⟩ | ⟨b, o, cap, h1, h2, h3, h4, h5⟩
    · exact ⟨0, 0, fun i hi => by simp at hi, fun hi => by simp at hi⟩
    · exact ⟨b, o, h5, fun _ => ⟨h4, cap, h1⟩⟩
  obtain ⟨b, o, hc, hv⟩ := hcell v L h
  obtain ⟨b', o', hc', hv'⟩ := hcell u B h'
  obtain ⟨a, cap, rfl⟩ := h.form
  obtain ⟨a', cap', rfl⟩ := h'.form
  have HC : Hid (∀ i, i < L.length → Rd.Cs w b o L i) := hc
  have HC' : Hid (∀ i, i < B.length → Rd.Cs w b' o' B i) := hc'
  have HV : Hid (0 < L.length → b < w.heap.size ∧ a = some ⟨b, o, none⟩) := fun hi => by
    obtain ⟨h1, c, h2⟩ := hv hi
    simp at h2
    exact ⟨h1, h2.1⟩
  have HV' : Hid (0 < B.length → b' < w.heap.size ∧ a' = some ⟨b', o', none⟩) := fun hi => by
    obtain ⟨h1, c, h2⟩ := hv' hi
    simp at h2
    exact ⟨h1, h2.1⟩
  have HR : Hid ((bst L B L.length).2 ≠ 0 → bias L B = (opF .quo (bst L B L.length).1 (cn (floatOfInt .f64 ((bst L B L.length).2 : Int))), ((bst L B L.length).2 : Int))) := fun h => bias_yes ⟨hl, hl', h⟩
  have HZ : Hid ((bst L B L.length).2 = 0 → bias L B = (qn, 0)) := fun h => bias_no (by omega)
  obtain ⟨n, hn⟩ : ∃ n, n = L.length := ⟨_, rfl⟩
  obtain ⟨m, hm⟩ : ∃ m, m = B.length := ⟨_, rfl⟩
  rw [← hn] at hl HF HR HZ ⊢
  rw [← hm] at hl' HF' ⊢
  have HN : Hid (n = L.length) := hn
  have HM : Hid (m = B.length) := hm
  have j1 : (n : Int) ≤ 300 := by omega
  have j2 : (m : Int) ≤ 300 := by omega
  have hA : ∀ x y w, (binOp .add 35 (.float .f64 x) (.float .f64 y)).run Try.prog w = .ok (.float .f64 (opB .add x y w)) (w.drewN (opD .add x y)) := fun x y w => run_op Try.prog .add arAdd 35 x y w
  have hS : ∀ x y w, (binOp .sub 35 (.float .f64 x) (.float .f64 y)).run Try.prog w = .ok (.float .f64 (opB .sub x y w)) (w.drewN (opD .sub x y)) := fun x y w => run_op Try.prog .sub arSub 35 x y w
  have hQ : ∀ x y w, (binOp .quo 35 (.float .f64 x) (.float .f64 y)).run Try.prog w = .ok (.float .f64 (opB .quo x y w)) (w.drewN (opD .quo x y)) := fun x y w => run_op Try.prog .quo arQuo 35 x y w
  clear h h' hc hv hc' hv' hn hm hcell
  go_enter Try.func15, Try.ntmps15
  go_wp2_with fail
  go_loopw [6, 7, 8] (fun x c i wr => ∃ k f q : Nat, k ≤ n ∧ i = .int .i64 k ∧ x = .float .f64 f ∧ c = .int .i64 ((bst L B k).2 : Int) ∧ Hid (cn f = (bst L B k).1) ∧ Hid (wr = w.drewN q)) (fun _ _ i _ => n - (intOf i).toNat)
  case atStart => exact ⟨0, 0, 0, Nat.zero_le _, rfl, rfl, rfl, (by show cn 0 = 0; decide +kernel), rfl⟩
  case round =>
    obtain ⟨k, f, q, hk, rfl, rfl, rfl, CF, HW⟩ := hrel
    have bl := bst_le L B k
    by_cases hlt : k < n
    · have hkl : k < L.length := by have := HN.out; omega
      obtain ⟨hb, hx⟩ := HV.out (by omega)
      subst hx
      have Q : Hid (Rd.Cs w b o L k) := HC.out k hkl
      have HI : Hid (hit L B k = match fst B (Rd.c0 L k) (Rd.c1 L k) with | some y => if kn (Rd.c2 L k) = true ∧ kn y = true then some y else none | none => none) := rfl
      have HY : Hid (∀ y, hit L B k = some y → bst L B (k + 1) = (opF .add (bst L B k).1 (opF .sub (cn (Rd.c2 L k)) (cn y)), (bst L B k).2 + 1)) := fun y h => bst_yes h
      have HO : Hid (hit L B k = none → bst L B (k + 1) = bst L B k) := fun h => bst_no h
      have i1 : (0 : Int) ≤ (k : Int) := by omega
      have i2 : (k : Int) < (n : Int) := by omega
      have i3 : IntKind.i64.wrap (((bst L B k).2 : Int) + 1) = ((bst L B k).2 : Int) + 1 := IntWalk.i64_in _ (by omega)
      unfold Rd.Cs at Q
      clear bl
      generalize Rd.c0 L k = x0 at *
      generalize Rd.c1 L k = x1 at *
      generalize Rd.c2 L k = x2 at *
      generalize hit L B k = H at *
      generalize hbk : bst L B k = S at *
      obtain ⟨s1, s2⟩ := S
      dsimp only at *
      clear hbk
      go_wp2_with fail
      go_loopw [6, 7, 9] (fun x c jj wi => ∃ j p : Nat, j ≤ m ∧ jj = .int .i64 j ∧ x = .float .f64 f ∧ c = .int .i64 (s2 : Int) ∧ Hid (NB B x0 x1 j) ∧ Hid (wi = w.drewN p)) (fun _ _ jj _ => m - (intOf jj).toNat)
      case atStart => exact ⟨0, q, Nat.zero_le _, rfl, rfl, rfl, (fun i hi => absurd hi (by omega)), HW⟩
      case round =>
        obtain ⟨j, p, hj, rfl, rfl, rfl, NBJ, HP⟩ := hrel
        by_cases hlj : j < m
        · have hjl : j < B.length := by have := HM.out; omega
          obtain ⟨hb', hx'⟩ := HV'.out (by omega)
          subst hx'
          have QB : Hid (Rd.Cs w b' o' B j) := HC'.out j hjl
          have i4 : (0 : Int) ≤ (j : Int) := by omega
          have i5 : (j : Int) < (m : Int) := by omega
          have NX : Hid (¬ (Rd.c0 B j = x0 ∧ Rd.c1 B j = x1) → NB B x0 x1 (j + 1)) := fun h => NBJ.out.next h
          have HT : Hid (Rd.c0 B j = x0 → Rd.c1 B j = x1 → fst B x0 x1 = some (Rd.c2 B j)) := fun h0 h1 => fst_hit NBJ.out hjl h0 h1
          unfold Rd.Cs at QB
          generalize Rd.c0 B j = y0 at *
          generalize Rd.c1 B j = y1 at *
          generalize Rd.c2 B j = y2 at *
          have r0 : wr.cell? ⟨b', o' + j * 3, none⟩ = some (.int .i64 y0) := by rw [HP.out]; exact QB.out.1
          have r1 : wr.cell? ⟨b', o' + j * 3 + 1, none⟩ = some (.int .i64 y1) := by rw [HP.out]; exact QB.out.2.1
          have r2 : wr.cell? ⟨b', o' + j * 3 + 2, none⟩ = some (.float .f64 y2) := by rw [HP.out]; exact QB.out.2.2
          have q0 : wr.cell? ⟨b, o + k * 3, none⟩ = some (.int .i64 x0) := by rw [HP.out]; exact Q.out.1
          have q1 : wr.cell? ⟨b, o + k * 3 + 1, none⟩ = some (.int .i64 x1) := by rw [HP.out]; exact Q.out.2.1
          have q2 : wr.cell? ⟨b, o + k * 3 + 2, none⟩ = some (.float .f64 x2) := by rw [HP.out]; exact Q.out.2.2
          by_cases c0 : y0 = x0
          · by_cases c1 : y1 = x1
            · have HF : Hid (fst B x0 x1 = some y2) := HT.out c0 c1
              subst c0 c1
              have HI2 : Hid (H = if kn x2 = true ∧ kn y2 = true then some y2 else none) := (by show _ = _; rw [HI.out, HF.out])
              clear HI HF NX HT Q QB HZ HR HC HC' HV HV' HN HM NBJ hQ
              go_wp2_with fail
              go_quiet (fail)
              have r2' : (wr.drewN nq).cell? ⟨b', o' + j * 3 + 2, none⟩ = some (.float .f64 y2) := r2
              have q2' : (wr.drewN nq).cell? ⟨b, o + k * 3 + 2, none⟩ = some (.float .f64 x2) := q2
              have HQ : Hid (wr.drewN nq = w.drewN (p + nq)) := (by show _ = _; rw [HP.out]; exact World.drewN_drewN _ _ _)
              clear r0 r1 r2 q0 q1 q2 HP
              generalize wr.drewN nq = wq at *
              cases c1 : kn x2 with
              | false =>
                have C1 : Hid (kn x2 = false) := c1
                have HE : Hid (bst L B (k + 1) = (s1, s2)) := HO.out (by rw [HI2.out, if_neg (by simp [c1])])
                clear c1
                go_wp2_with fail
                refine (sknown _ _).mono ?_
                rintro e w3 ⟨rfl, m3, hw3⟩
                have H3 : Hid (w3 = w.drewN (p + nq + m3)) := (by show _ = _; rw [hw3, HQ.out]; exact World.drewN_drewN _ _ _)
                clear hw3
                rw [C1.out]
                go_wp2_with fail
                go_roundw
                case rel => exact ⟨k + 1, f, _, by omega, by go_num, rfl, by rw [HE.out], (by show _ = _; rw [HE.out]; exact CF.out), H3⟩
                case measure => simp [intOf]; omega
              | true =>
                have C1 : Hid (kn x2 = true) := c1
                cases c2 : kn y2 with
                | false =>
                  have C2 : Hid (kn y2 = false) := c2
                  have HE : Hid (bst L B (k + 1) = (s1, s2)) := HO.out (by rw [HI2.out, if_neg (by simp [c2])])
                  clear c1 c2
                  go_wp2_with fail
                  refine (sknown _ _).mono ?_
                  rintro e w3 ⟨rfl, m3, hw3⟩
                  have H3 : Hid (w3 = w.drewN (p + nq + m3)) := (by show _ = _; rw [hw3, HQ.out]; exact World.drewN_drewN _ _ _)
                  have r3 : w3.cell? ⟨b', o' + j * 3 + 2, none⟩ = some (.float .f64 y2) := by rw [hw3]; exact r2'
                  clear hw3
                  rw [C1.out]
                  go_wp2_with fail
                  refine (sknown _ _).mono ?_
                  rintro e w4 ⟨rfl, m4, hw4⟩
                  have H4 : Hid (w4 = w.drewN (p + nq + m3 + m4)) := (by show _ = _; rw [hw4, H3.out]; exact World.drewN_drewN _ _ _)
                  clear hw4
                  rw [C2.out]
                  go_wp2_with fail
                  go_roundw
                  case rel => exact ⟨k + 1, f, _, by omega, by go_num, rfl, by rw [HE.out], (by show _ = _; rw [HE.out]; exact CF.out), H4⟩
                  case measure => simp [intOf]; omega
                | true =>
                  have C2 : Hid (kn y2 = true) := c2
                  have HE : Hid (bst L B (k + 1) = (opF .add s1 (opF .sub (cn x2) (cn y2)), s2 + 1)) := HY.out y2 (by rw [HI2.out, if_pos ⟨c1, c2⟩])
                  clear c1 c2
                  go_wp2_with fail
                  refine (sknown _ _).mono ?_
                  rintro e w3 ⟨rfl, m3, hw3⟩
                  have H3 : Hid (w3 = w.drewN (p + nq + m3)) := (by show _ = _; rw [hw3, HQ.out]; exact World.drewN_drewN _ _ _)
                  have r3 : w3.cell? ⟨b', o' + j * 3 + 2, none⟩ = some (.float .f64 y2) := by rw [hw3]; exact r2'
                  have q3 : w3.cell? ⟨b, o + k * 3 + 2, none⟩ = some (.float .f64 x2) := by rw [hw3]; exact q2'
                  clear hw3
                  rw [C1.out]
                  go_wp2_with fail
                  refine (sknown _ _).mono ?_
                  rintro e w4 ⟨rfl, m4, hw4⟩
                  have H4 : Hid (w4 = w.drewN (p + nq + m3 + m4)) := (by show _ = _; rw [hw4, H3.out]; exact World.drewN_drewN _ _ _)
                  have r4 : w4.cell? ⟨b', o' + j * 3 + 2, none⟩ = some (.float .f64 y2) := by rw [hw4]; exact r3
                  have q4 : w4.cell? ⟨b, o + k * 3 + 2, none⟩ = some (.float .f64 x2) := by rw [hw4]; exact q3
                  clear hw4 r3 q3 r2' q2'
                  rw [C2.out]
                  go_wp2_with fail
                  go_region
                  all_goals go_wp2_with fail
                  all_goals go_roundw
                  all_goals first
                    | exact ⟨k + 1, _, p + nq + m3 + m4 + (1 + opD BinOp.sub x2 y2 + opD BinOp.add f (opB BinOp.sub x2 y2 w4.drew)), by omega, by go_num, rfl, by rw [HE.out]; rfl, (by show _ = _; rw [HE.out, cn_op, cn_op, CF.out]), (by show _ = _; rw [H4.out]; exact World.drewN_drewN _ _ _)⟩
                    | (simp [intOf]; omega)
            · have NE : Hid (NB B x0 x1 (j + 1)) := NX.out (fun h => c1 h.2)
              subst c0
              go_wp2_with fail
              go_quiet (fail)
              go_wp2_with fail
              go_roundw
              case rel => exact ⟨j + 1, p + nq, by omega, by go_num, rfl, rfl, NE, (by show _ = _; rw [HP.out]; exact World.drewN_drewN _ _ _)⟩
              case measure => simp [intOf]; omega
          · have NE : Hid (NB B x0 x1 (j + 1)) := NX.out (fun h => c0 h.1)
            go_wp2_with fail
            go_quiet (fail)
            go_wp2_with fail
            go_roundw
            case rel => exact ⟨j + 1, p + nq, by omega, by go_num, rfl, rfl, NE, (by show _ = _; rw [HP.out]; exact World.drewN_drewN _ _ _)⟩
            case measure => simp [intOf]; omega
        · have hjm : j = m := by omega
          have HE : Hid (bst L B (k + 1) = (s1, s2)) := HO.out (by rw [HI.out, fst_miss (by have := NBJ.out; rw [hjm, HM.out] at this; exact this)])
          have hlj' : ¬ (j : Int) < (m : Int) := by omega
          clear hlj hjm hj
          go_wp2_with fail
          go_roundw
          case rel => exact ⟨k + 1, f, p, by omega, by go_num, rfl, by rw [HE.out], (by show _ = _; rw [HE.out]; exact CF.out), HP⟩
          case measure => simp [intOf]; omega
    · have hkn : k = n := by omega
      subst hkn
      have j5 : IntKind.i64.wrap ((bst L B k).2 : Int) = ((bst L B k).2 : Int) := IntWalk.i64_in _ (by omega)
      by_cases hz : (bst L B k).2 = 0
      · have HB : Hid (bias L B = (qn, 0)) := HZ.out hz
        have hz' : ((bst L B k).2 : Int) = 0 := by omega
        go_wp2_with fail
        refine (none_any _).mono ?_
        rintro e w3 ⟨g, rfl, hg, _, hw3⟩
        have HG : Hid (cn g = qn) := hg
        have HW3 : Hid (w3 = wr.drew) := hw3
        clear hg hw3
        go_wp2_with fail
        go_ret2
        exact ⟨g, by rw [HB.out]; rfl, by rw [HB.out]; exact HG.out, q + 1, by rw [HW3.out, HW.out]; rfl⟩
      · have HB := HR.out hz
        have HB' : Hid (bias L B = (opF .quo (bst L B k).1 (cn (floatOfInt .f64 ((bst L B k).2 : Int))), ((bst L B k).2 : Int))) := HB
        have hz' : ((bst L B k).2 : Int) ≠ 0 := by omega
        clear HB
        generalize bst L B k = S at *
        obtain ⟨s1, s2⟩ := S
        dsimp only at *
        go_wp2_with fail
        go_ret2
        exact ⟨opB .quo f (floatOfInt .f64 (s2 : Int)) wr, by rw [HB'.out]; rfl, by rw [HB'.out, cn_op, CF.out], q + opD .quo f (floatOfInt .f64 (s2 : Int)), by rw [HW.out]; exact World.drewN_drewN _ _ _⟩
end Go.Proofs.Ytkgciiabehlpfaa.Bi
