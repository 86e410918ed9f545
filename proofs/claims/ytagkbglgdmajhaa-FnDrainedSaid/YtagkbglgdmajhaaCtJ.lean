/- Catch and OutletOf: the program. -/
import Derived.Test.YtagkbglgdmajhaaCtI
namespace Go.Proofs.Ytagkbglgdmajhaa.Ct
open Go.ChangeShapes Go.WideShapes Go.ChangeAt Go.RowKit
open Go.Proofs.Ytagkbglgdmajhaa.Lists

theorem below_drewN {B : Nat} {a w : World} (h : Below B a w) (n : Nat) : Below B a (w.drewN n) := h.trans ⟨rfl, rfl, rfl, Nat.le_refl _, fun _ _ => rfl⟩
theorem sm_mono {n : Nat} {f g : Nat → Int} (h : ∀ i, i < n → f i ≤ g i) : sm n f ≤ sm n g := by
  induction n with
  | zero => exact Int.le_refl _
  | succ n ih => simp only [sm]; have := ih fun i hi => h i (by omega); have := h n (by omega); omega
theorem F_le (N : List Int) (h : N.length ≤ 576) (x : Nat) : 0 ≤ F N x ∧ F N x ≤ 400000 := by
  have t := thru_le N N.length x
  have : (N.length : Int) * ((N.length : Int) + 1) ≤ 576 * 577 := Int.mul_le_mul (by omega) (by omega) (by omega) (by omega)
  unfold F
  omega
theorem part_le {N : List Int} (hv : Va N) (he : Ends N) (h : N.length ≤ 576) (Q : List Nat) (i x : Nat) (hx : x < N.length) : 0 ≤ part N Q i x ∧ part N Q i x ≤ F N x := by
  have a : 0 ≤ sm N.length (fun p => if nx N p = x ∧ p ∈ Q.take i then F N p else 0) := sm_ge fun p _ => by
    show 0 ≤ (if _ then F N p else 0)
    have := (F_le N h p).1
    split <;> omega
  have b : sm N.length (fun p => if nx N p = x ∧ p ∈ Q.take i then F N p else 0) ≤ sm N.length (fun p => if nx N p = x then F N p else 0) := sm_mono fun p _ => by
    have := (F_le N h p).1
    by_cases e : nx N p = x
    · rw [if_pos e]; split <;> omega
    · rw [if_neg e, if_neg (fun z => e z.1)]; omega
  rw [F_rec hv he x hx]
  unfold part
  split <;> omega
theorem all_va {N : List Int} : N.all (fun d => inn d (-1) ((N.length : Int) - 1)) = true ↔ Va N := by
  rw [List.all_eq_true]
  simp only [inn_iff]
  constructor
  · intro h c hc
    have := h (nx N c) (by unfold nx; simp [List.getD_eq_getElem?_getD, hc])
    omega
  · intro h d hd
    obtain ⟨j, hj, rfl⟩ := List.getElem_of_mem hd
    have := h j hj
    simp [nx, List.getD_eq_getElem?_getD, hj] at this
    omega

set_option maxHeartbeats 1000000 in
theorem icatch_bad (N : List Int) (v : Value) (w : World) (hN : Lists.Reads w v N) (hf : N.length < 9223372036854775808) (h : ¬ (N.length ≤ 576 ∧ Va N)) :
    Calls Try.prog 17 #[v] w fun e w' => ∃ u, e = .returned (.tuple #[u, .bool false]) ∧ w'.ownsRow w.heap.size 2 1 u 0 [] ∧ Below w.heap.size w w' := by
  have S1 : Hid (Calls Try.prog 31 #[v, .int .i64 (-1), .int .i64 ((N.length : Int) - 1)] w fun e w' => e = .returned (.bool (N.all (fun d => inn d (-1) ((N.length : Int) - 1)))) ∧ w' = w) := iall_any N _ _ v w hN hf
  obtain ⟨a, cap, rfl⟩ := hN.form
  have j1 : IntKind.i64.wrap ((N.length : Int) - 1) = (N.length : Int) - 1 := IntWalk.i64_in _ (by omega)
  by_cases h5 : N.length ≤ 576
  · have e : N.all (fun d => inn d (-1) ((N.length : Int) - 1)) = false := by
      cases z : N.all (fun d => inn d (-1) ((N.length : Int) - 1))
      · rfl
      · exact absurd ⟨h5, all_va.1 z⟩ h
    rw [e] at S1
    have i0 : ¬ (576 : Int) < (N.length : Int) := by omega
    clear h e hN
    go_enter Try.func17, Try.ntmps17
    go_wp2_with fail
    refine (Calls.mono S1.out) ?_
    rintro e w1 ⟨rfl, hw⟩
    have hw' := hw.symm
    subst hw'
    go_wp2_with fail
    go_ret2
    exact ⟨_, rfl, nil_row _ _, Below.refl _ _⟩
  · have i0 : (576 : Int) < (N.length : Int) := by omega
    clear h hN S1
    go_enter Try.func17, Try.ntmps17
    go_wp2_with fail
    go_ret2
    exact ⟨_, rfl, nil_row _ _, Below.refl _ _⟩

set_option maxRecDepth 20000 in
set_option maxHeartbeats 2000000 in
theorem icatch_va (N : List Int) (v : Value) (w : World) (hN : Lists.Reads w v N) (h5 : N.length ≤ 576) (hv : Va N) :
    Calls Try.prog 17 #[v] w fun e w' => ∃ u, e = .returned (.tuple #[u, .bool (okN N)]) ∧ w'.ownsRow w.heap.size 2 1 u (cat N).length (ints (cat N)) ∧ Below w.heap.size w w' := by
  have S1 : Hid (Calls Try.prog 31 #[v, .int .i64 (-1), .int .i64 ((N.length : Int) - 1)] w fun e w' => e = .returned (.bool true) ∧ w' = w) := by
    have := iall_any N (-1) ((N.length : Int) - 1) v w hN (by omega)
    rwa [all_va.2 hv] at this
  have S2 : Hid (Calls Try.prog 32 #[v] w fun e w' => ∃ u Q O, e = .returned u ∧ KI N Q.length Q O ∧ w'.ownsRow w.heap.size 2 1 u Q.length (ints (qi Q)) ∧ Below w.heap.size w w') := idown_any N v w hN h5 hv
  have HV : Hid (Va N) := hv
  have H5 : Hid (N.length ≤ 576) := h5
  obtain ⟨b, o, hcell, hvv⟩ := reads_at hN
  obtain ⟨a, cap, rfl⟩ := hN.form
  have HC : Hid (∀ i, i < N.length → w.cell? ⟨b, o + i, none⟩ = some (.int .i64 (N.getD i 0))) := hcell
  have HB : Hid (0 < N.length → b < w.heap.size ∧ a = some ⟨b, o, none⟩) := fun hi => by
    obtain ⟨h1, c, h2⟩ := hvv hi
    simp at h2
    exact ⟨h1, h2.1⟩
  obtain ⟨i0, hi, hz0, hz1, hz2⟩ := info_parts Lists.Try.info2
  have FZ : Hid ((madeCells (Value.int .i64 0).cells (N.length * 1)).toList = ints (zeros N.length)) := zeros_made N.length
  have X0 : Hid (okN N = false → cat N = []) := fun h => by unfold cat; rw [h]; rfl
  have X1 : Hid (okN N = true → (cat N).length = N.length ∧ ∀ x, x < N.length → (cat N).getD x 0 = F N x) := fun h => by
    unfold cat
    rw [h]
    exact ⟨by simp, fun x hx => map_get _ _ x hx⟩
  obtain ⟨X, hX⟩ : ∃ X, cat N = X := ⟨_, rfl⟩
  rw [hX] at X0 X1 ⊢
  obtain ⟨bo, hbo⟩ : ∃ bo, okN N = bo := ⟨_, rfl⟩
  have HO : Hid (okN N = bo) := hbo
  rw [hbo] at X0 X1 ⊢
  obtain ⟨n, hn⟩ : ∃ n, n = N.length := ⟨_, rfl⟩
  rw [← hn] at h5 FZ S1 S2 ⊢
  have HN : Hid (n = N.length) := hn
  have j1 : IntKind.i64.wrap ((n : Int) - 1) = (n : Int) - 1 := IntWalk.i64_in _ (by omega)
  have j0 : ¬ (576 : Int) < (n : Int) := by omega
  clear hN hcell hvv hn hv hX hbo
  go_enter Try.func17, Try.ntmps17
  go_wp2_with fail
  refine (Calls.mono S1.out) ?_
  rintro e w1 ⟨rfl, hw⟩
  have hw' := hw.symm
  subst hw'
  clear S1 j1 j0
  go_wp2_with fail
  refine (Calls.mono S2.out) ?_
  rintro e w1 ⟨u, Q, O, rfl, ks, rq, b1⟩
  have KS : Hid (KI N Q.length Q O) := ks
  have RQ : Hid (w1.ownsRow w.heap.size 2 1 u Q.length (ints (qi Q))) := rq
  have B1 : Hid (Below w.heap.size w w1) := b1
  have qn : Q.length ≤ n := by rw [HN.out]; exact ki_len ks
  obtain ⟨sa, sc, hu⟩ := row_form rq
  subst hu
  clear ks rq b1 S2
  by_cases hl : Q.length < n
  · have HF : Hid (bo = false) := (by
      show _ = _
      rw [← HO.out]
      exact ok_not (fun h => ki_round KS.out (by rw [← HN.out]; exact hl) h.2.2))
    have i1 : (Q.length : Int) < (n : Int) := by omega
    go_wp2_with fail
    go_ret2
    refine ⟨_, by rw [HF.out]; rfl, ?_, B1.out⟩
    rw [X0.out HF.out]
    exact nil_row _ _
  · have ql : Q.length = n := by omega
    have i1 : ¬ (Q.length : Int) < (n : Int) := by omega
    have QL : Hid (Q.length = N.length) := ql.trans HN.out
    have HE : Hid (Ends N) := ki_ends HV.out KS.out QL.out
    have HT : Hid (bo = true) := (by show _ = _; rw [← HO.out, ok_iff]; exact ⟨H5.out, HV.out, HE.out⟩)
    obtain ⟨xl, xg⟩ := X1.out HT.out
    have XL : Hid (X.length = n) := xl.trans HN.out.symm
    have XG : Hid (∀ x, x < N.length → X.getD x 0 = F N x) := xg
    clear xl xg X0 X1 HO
    go_wp2_with (at_make; refine wpList_make_full _ rfl _ _ 22 rfl w1.heap.size 2 i0 (.int .i64 0) 1 Try.underlying22 hi hz0 hz1 .i64 .i64 (n : Int) (n : Int) n rfl rfl rfl rfl (by rw [hz2]; omega) (by unfold maxLen; omega) (Nat.le_refl _) ?_; intro w4 hown hgrow)
    rw [FZ.out] at hown
    have R0 : Hid (w4.ownsRow w1.heap.size 2 1 (.slice (some ⟨w1.heap.size, 0, none⟩) n n) n (ints (zeros n))) := hown
    have BM : Below w1.heap.size w1 w4 := (Below.refl _ _).grown hgrow (Nat.le_refl _) (fun k hk => by cases hk)
    have B4 : Hid (Below w.heap.size w w4) := B1.out.trans (BM.mono B1.out.size)
    have RQ4 : Hid (w4.ownsRow w.heap.size 2 1 (.slice sa Q.length sc) Q.length (ints (qi Q))) := row_on RQ.out BM
    have OL : Hid (∀ k, (Value.slice sa Q.length sc).ownBlock = some k → w.heap.size ≤ k ∧ k < w1.heap.size) := fun k hk => RQ.out.lt k hk
    have Z1 : Hid (w.heap.size ≤ w1.heap.size) := B1.out.size
    clear hown hgrow FZ BM RQ B1
    go_loopw [32] (fun i wr => ∃ (j : Nat) (C : List Int), j ≤ Q.length ∧ i = .int .i64 j ∧ Hid (C.length = n) ∧ Hid (∀ x, x < n → C.getD x 0 = part N Q j x) ∧ Hid (wr.ownsRow w1.heap.size 2 1 (.slice (some ⟨w1.heap.size, 0, none⟩) n n) n (ints C)) ∧ Hid (wr.ownsRow w.heap.size 2 1 (.slice sa Q.length sc) Q.length (ints (qi Q))) ∧ Hid (Below w.heap.size w wr)) (fun i _ => Q.length - (intOf i).toNat)
    case atStart => exact ⟨0, zeros n, by omega, rfl, zeros_len n, fun x _ => by rw [zeros_get, part_start], R0, RQ4, B4⟩
    case round =>
      clear R0 RQ4 B4
      obtain ⟨j, C, hj, rfl, HCL, HG, RC, RQ, BB⟩ := hrel
      by_cases hlj : j < Q.length
      · obtain ⟨c, hc⟩ : ∃ c, Q[j]? = some c := ⟨Q[j], List.getElem?_eq_getElem hlj⟩
        have cl' : c < N.length := KS.out.lt c (List.mem_of_getElem? hc)
        have cl : c < n := by rw [HN.out]; exact cl'
        have HJ : Hid (Q[j]? = some c) := hc
        obtain ⟨g, hg⟩ : ∃ g, sa = some ⟨g, 0, none⟩ := by
          rcases RQ.out.2 with ⟨h, h'⟩ | ⟨g, cc, cur, h, _⟩
          · omega
          · simp at h
            exact ⟨g, h.1⟩
        subst hg
        have gl : g < w1.heap.size := (OL.out g (by simp [Value.ownBlock])).2
        have q0 : wr.cell? ⟨g, j, none⟩ = some (.int .i64 c) := by
          have := row_get RQ.out (qi_len Q) j hlj
          rw [qi_get hc] at this
          exact this
        obtain ⟨hb, hxx⟩ := HB.out (by omega)
        subst hxx
        have vb := va_at HV.out cl'
        rw [← HN.out] at vb
        have q1 : wr.cell? ⟨w1.heap.size, c, none⟩ = some (.int .i64 (C.getD c 0)) := row_get RC.out HCL.out c cl
        have q2 : wr.frozen? ⟨w1.heap.size, c, none⟩ = false := RC.out.frozenAt c
        have pc : C.getD c 0 + 1 = F N c := by rw [HG.out c cl]; exact part_at HV.out HE.out KS.out QL.out hc
        have fb := F_le N H5.out c
        have PN : Hid (∀ x, part N Q (j + 1) x = part N Q j x + (if x = c then 1 else 0) + (if nx N c = x then F N c else 0)) := fun x => part_next KS.out.nd cl' hc x
        have RC2 : Hid ((wr.setCell ⟨w1.heap.size, c, none⟩ (.int .i64 (C.getD c 0 + 1))).ownsRow w1.heap.size 2 1 (.slice (some ⟨w1.heap.size, 0, none⟩) n n) n (ints (C.set c (C.getD c 0 + 1)))) := row_put RC.out c _
        have RQ2 : Hid ((wr.setCell ⟨w1.heap.size, c, none⟩ (.int .i64 (C.getD c 0 + 1))).ownsRow w.heap.size 2 1 (.slice (some ⟨g, 0, none⟩) Q.length sc) Q.length (ints (qi Q))) := row_keep RQ.out _ _ _ (fun k hk => by have := OL.out k hk; omega)
        have BB2 : Hid (Below w.heap.size w (wr.setCell ⟨w1.heap.size, c, none⟩ (.int .i64 (C.getD c 0 + 1)))) := BB.out.setCell (p := ⟨w1.heap.size, c, none⟩) Z1.out _
        have q3 : (wr.setCell ⟨w1.heap.size, c, none⟩ (.int .i64 (C.getD c 0 + 1))).cell? ⟨b, o + c, none⟩ = some (.int .i64 (N.getD c 0)) := (BB2.out.cell (p := ⟨b, o + c, none⟩) hb).trans (HC.out c cl')
        have CL2 : Hid ((C.set c (C.getD c 0 + 1)).length = n) := (by show _ = _; rw [List.length_set]; exact HCL.out)
        have CG : Hid (∀ x, x < n → (C.set c (C.getD c 0 + 1)).getD x 0 = part N Q j x + (if x = c then 1 else 0)) := fun x hx => by
          rw [getD_set C c x _ (by rw [HCL.out]; exact cl)]
          by_cases e : x = c
          · subst e; rw [if_pos rfl, if_pos rfl, HG.out x hx]
          · rw [if_neg e, if_neg e, HG.out x hx]; omega
        have i2 : (0 : Int) ≤ (j : Int) := by omega
        have i3 : (j : Int) < (Q.length : Int) := by omega
        have i4 : (0 : Int) ≤ (c : Int) := by omega
        have i5 : (c : Int) < (n : Int) := by omega
        have bd1 : -1 ≤ C.getD c 0 := by omega
        have bd2 : C.getD c 0 ≤ 400000 := by omega
        clear hc RC RQ BB
        by_cases e : N.getD c 0 = -1
        · have G2 : Hid (∀ x, x < n → (C.set c (C.getD c 0 + 1)).getD x 0 = part N Q (j + 1) x) := fun x hx => by
            rw [CG.out x hx, PN.out x, if_neg (show ¬ nx N c = x by unfold nx; omega)]
            omega
          rw [e] at q3
          clear e vb pc fb CG PN HG
          generalize C.set c (C.getD c 0 + 1) = C' at *
          generalize C.getD c 0 = z at *
          go_wp2_with fail
          go_roundw
          case rel => exact ⟨j + 1, C', by omega, by go_num, CL2, G2, RC2, RQ2, BB2⟩
          case measure => simp [intOf]; omega
        · have e' : (N.getD c 0 != -1) = true := by rw [bne_iff_ne]; exact e
          obtain ⟨d, hd⟩ : ∃ d : Nat, N.getD c 0 = d := ⟨(N.getD c 0).toNat, by omega⟩
          have dl : d < n := by omega
          have dc : d ≠ c := by
            intro z
            subst z
            exact KS.out.top j (by omega) d HJ.out j (Nat.le_refl _) d HJ.out hd
          obtain ⟨C', hC'⟩ : ∃ C', C' = C.set c (C.getD c 0 + 1) := ⟨_, rfl⟩
          rw [← hC'] at CL2 CG RC2
          have pd := part_le HV.out HE.out H5.out Q j d (by rw [← HN.out]; exact dl)
          have fd := F_le N H5.out d
          have vd : C'.getD d 0 = part N Q j d := by rw [CG.out d dl, if_neg dc]; omega
          have vc : C'.getD c 0 = C.getD c 0 + 1 := by rw [CG.out c cl, if_pos rfl, HG.out c cl]
          have G2 : Hid (∀ x, x < n → (C'.set d (C'.getD d 0 + (C.getD c 0 + 1))).getD x 0 = part N Q (j + 1) x) := fun x hx => by
            rw [getD_set C' d x _ (by rw [CL2.out]; exact dl), PN.out x, pc, vd]
            have hd' : nx N c = d := hd
            rw [hd']
            by_cases e : x = d
            · subst e; rw [if_pos rfl, if_pos rfl, if_neg dc]; omega
            · rw [if_neg e, if_neg (show ¬ (d : Int) = x by omega), CG.out x hx]; omega
          obtain ⟨z, hz⟩ : ∃ z, C.getD c 0 = z := ⟨_, rfl⟩
          rw [hz] at q1 bd1 bd2 RC2 RQ2 BB2 q3 vc G2
          obtain ⟨wB, hwB⟩ : ∃ wB, wB = wr.setCell ⟨w1.heap.size, c, none⟩ (.int .i64 (z + 1)) := ⟨_, rfl⟩
          have HWB : Hid (wB = wr.setCell ⟨w1.heap.size, c, none⟩ (.int .i64 (z + 1))) := hwB
          have hq3 := q3
          rw [← hwB] at RC2 RQ2 BB2 hq3
          have s1 : wB.cell? ⟨w1.heap.size, c, none⟩ = some (.int .i64 (z + 1)) := by rw [← vc]; exact row_get RC2.out CL2.out c cl
          have s2 : wB.cell? ⟨w1.heap.size, d, none⟩ = some (.int .i64 (C'.getD d 0)) := row_get RC2.out CL2.out d dl
          have s3 : wB.frozen? ⟨w1.heap.size, d, none⟩ = false := RC2.out.frozenAt d
          have bd3 : 0 ≤ C'.getD d 0 ∧ C'.getD d 0 ≤ 400000 := by rw [vd]; omega
          have RC3 : Hid ((wB.drew.setCell ⟨w1.heap.size, d, none⟩ (.int .i64 (C'.getD d 0 + (z + 1)))).ownsRow w1.heap.size 2 1 (.slice (some ⟨w1.heap.size, 0, none⟩) n n) n (ints (C'.set d (C'.getD d 0 + (z + 1))))) := row_put (w := wB.drew) RC2.out d _
          have RQ3 : Hid ((wB.drew.setCell ⟨w1.heap.size, d, none⟩ (.int .i64 (C'.getD d 0 + (z + 1)))).ownsRow w.heap.size 2 1 (.slice (some ⟨g, 0, none⟩) Q.length sc) Q.length (ints (qi Q))) := row_keep (w := wB.drew) RQ2.out _ _ _ (fun k hk => by have := OL.out k hk; omega)
          have BB3 : Hid (Below w.heap.size w (wB.drew.setCell ⟨w1.heap.size, d, none⟩ (.int .i64 (C'.getD d 0 + (z + 1))))) := (below_drewN BB2.out 1).setCell (p := ⟨w1.heap.size, d, none⟩) Z1.out _
          have CL3 : Hid ((C'.set d (C'.getD d 0 + (z + 1))).length = n) := (by show _ = _; rw [List.length_set]; exact CL2.out)
          have j1 : (0 : Int) ≤ (d : Int) := by omega
          have j2 : (d : Int) < (n : Int) := by omega
          rw [hd] at q3 e'
          obtain ⟨bd3, bd4⟩ := bd3
          clear e vb pc fb CG PN HG hC' vd vc pd fd hz hwB hq3 hd RC2 RQ2 BB2 CL2
          generalize C'.set d (C'.getD d 0 + (z + 1)) = C'' at *
          generalize C'.getD d 0 = y at *
          go_wp2_with fail
          rw [← HWB.out]
          go_region
          go_wp2_with fail
          go_roundw
          case rel => exact ⟨j + 1, C'', by omega, by go_num, CL3, G2, RC3, RQ3, BB3⟩
          case measure => simp [intOf]; omega
      · have ej : j = Q.length := by omega
        subst ej
        have RE : Hid (wr.ownsRow w.heap.size 2 1 (.slice (some ⟨w1.heap.size, 0, none⟩) n n) X.length (ints X)) := own_down (row_all RC.out HCL.out XL.out (fun x hx => by rw [HG.out x hx, XG.out x (by rw [← HN.out]; exact hx)]; exact part_end HV.out HE.out KS.out QL.out x (by rw [← HN.out]; exact hx))) Z1.out
        go_wp2_with fail
        go_ret2
        exact ⟨_, by rw [HT.out]; rfl, RE.out, BB.out⟩
theorem icatch_any (N : List Int) (hf : N.length < 9223372036854775808) (w : World) (v : Value) (hN : Lists.Reads w v N) :
    Calls Try.prog 17 #[v] w fun e w' => ∃ u, e = .returned (.tuple #[u, .bool (okN N)]) ∧ w'.ownsRow w.heap.size 2 1 u (cat N).length (ints (cat N)) ∧ Below w.heap.size w w' := by
  by_cases h : N.length ≤ 576 ∧ Va N
  · exact icatch_va N v w hN h.1 h.2
  · have e : okN N = false := ok_not (fun z => h ⟨z.1, z.2.1⟩)
    unfold cat
    rw [e]
    exact icatch_bad N v w hN hf h

theorem la_step {N : List Int} (he : Ends N) {c d : Nat} (hc : c < N.length) (h : nx N c = d) : la N d = la N c := by
  have hs := he c hc
  unfold la
  unfold last at hs ⊢
  rw [if_neg (show ¬ nx N c = -1 by omega), h, Int.toNat_natCast] at hs ⊢
  obtain ⟨r, hr⟩ := Option.isSome_iff_exists.1 hs
  rw [hr]
  have := last_more N N.length (N.length + 1) d r (by omega) hr
  unfold last at this
  rw [this]
theorem la_end {N : List Int} {c : Nat} (h : nx N c = -1) : la N c = c := by
  unfold la last
  rw [if_pos h]
  rfl

set_option maxHeartbeats 1000000 in
theorem ioutlet_any (N : List Int) (c : Int) (hf : N.length < 9223372036854775808) (w : World) (v : Value) (hN : Lists.Reads w v N) :
    Calls Try.prog 18 #[v, .int .i64 c] w fun e w' => e = .returned (.int .i64 (outl N c)) ∧ Below w.heap.size w w' := by
  have S1 : Hid (Calls Try.prog 17 #[v] w fun e w' => (∃ u, e = .returned (.tuple #[u, .bool (okN N)])) ∧ Below w.heap.size w w') := by
    refine (icatch_any N hf w v hN).mono ?_
    rintro e w' ⟨u, rfl, _, b⟩
    exact ⟨⟨u, rfl⟩, b⟩
  have S2 : Hid (∀ w, Calls Try.prog 33 #[.int .i64 c, .int .i64 0, .int .i64 ((N.length : Int) - 1)] w fun e w' => e = .returned (.bool (inn c 0 ((N.length : Int) - 1))) ∧ w' = w) := fun w => i_in _ _ _ w
  have j1 : IntKind.i64.wrap ((N.length : Int) - 1) = (N.length : Int) - 1 := IntWalk.i64_in _ (by omega)
  unfold outl
  cases h1 : okN N
  · rw [h1] at S1
    obtain ⟨a, cap, rfl⟩ := hN.form
    clear hN h1
    go_enter Try.func18, Try.ntmps18
    go_wp2_with fail
    refine (Calls.mono S1.out) ?_
    rintro e w1 ⟨⟨u, rfl⟩, b1⟩
    have B1 : Hid (Below w.heap.size w w1) := b1
    clear b1
    go_wp2_with fail
    go_ret
    exact ⟨rfl, B1.out⟩
  · cases h2 : inn c 0 ((N.length : Int) - 1)
    · rw [h1] at S1
      rw [h2] at S2
      obtain ⟨a, cap, rfl⟩ := hN.form
      clear hN h1 h2
      go_enter Try.func18, Try.ntmps18
      go_wp2_with fail
      refine (Calls.mono S1.out) ?_
      rintro e w1 ⟨⟨u, rfl⟩, b1⟩
      have B1 : Hid (Below w.heap.size w w1) := b1
      clear b1
      go_wp2_with fail
      refine (S2.out _).mono ?_
      rintro e w2 ⟨rfl, hw⟩
      have hw2 := hw.symm
      subst hw2
      go_wp2_with fail
      go_ret
      exact ⟨rfl, B1.out⟩
    · rw [h1] at S1
      rw [h2] at S2
      rw [inn_iff] at h2
      obtain ⟨h5, hv, he⟩ := (ok_iff N).1 h1
      have HV : Hid (Va N) := hv
      have HE : Hid (Ends N) := he
      obtain ⟨x, hx⟩ : ∃ x : Nat, c = x := ⟨c.toNat, by omega⟩
      subst hx
      obtain ⟨b, o, hcell, hvv⟩ := reads_at hN
      obtain ⟨hb, cap, rfl⟩ := hvv (by omega)
      have HC : Hid (∀ i, i < N.length → w.cell? ⟨b, o + i, none⟩ = some (.int .i64 (N.getD i 0))) := hcell
      have LA : Hid (la N (x : Int).toNat = la N x) := (by show _ = _; rw [Int.toNat_natCast])
      obtain ⟨n, hn⟩ : ∃ n, n = N.length := ⟨_, rfl⟩
      have HN : Hid (n = N.length) := hn
      rw [← hn] at h5 h2 S1 S2 j1 ⊢
      have xl : x < n := by omega
      obtain ⟨A, hA⟩ : ∃ A, la N (x : Int).toNat = A := ⟨_, rfl⟩
      have HA : Hid (la N x = A) := LA.out.symm.trans hA
      rw [hA]
      clear hN hcell hvv hn hv he h1 h2 LA hA
      go_enter Try.func18, Try.ntmps18
      go_wp2_with fail
      refine (Calls.mono S1.out) ?_
      rintro e w1 ⟨⟨u, rfl⟩, b1⟩
      have B1 : Hid (Below w.heap.size w w1) := b1
      clear b1
      go_wp2_with fail
      refine (S2.out _).mono ?_
      rintro e w2 ⟨rfl, hw⟩
      have hw2 := hw.symm
      subst hw2
      go_wp2_with fail
      clear j1
      go_loop [1] (fun i => ∃ y : Nat, y < n ∧ i = .int .i64 y ∧ Hid (la N y = A)) (fun i => msr N (intOf i))
      case atStart => exact ⟨x, xl, rfl, HA⟩
      case round =>
        obtain ⟨y, yl, rfl, HY⟩ := hrel
        have yl' : y < N.length := by rw [← HN.out]; exact yl
        have q : w1.cell? ⟨b, o + y, none⟩ = some (.int .i64 (N.getD y 0)) := (B1.out.cell (p := ⟨b, o + y, none⟩) hb).trans (HC.out y yl')
        have vb := va_at HV.out yl'
        rw [← HN.out] at vb
        have i1 : (0 : Int) ≤ (y : Int) := by omega
        have i2 : (y : Int) < (n : Int) := by omega
        by_cases e : N.getD y 0 = -1
        · have LE : Hid (A = y) := (by show _ = _; rw [← HY.out]; exact la_end e)
          rw [e] at q
          clear e vb
          go_wp2_with fail
          go_ret
          exact ⟨by rw [LE.out]; rfl, B1.out⟩
        · have e' : (N.getD y 0 != -1) = true := by rw [bne_iff_ne]; exact e
          obtain ⟨d, hd⟩ : ∃ d : Nat, N.getD y 0 = d := ⟨(N.getD y 0).toNat, by omega⟩
          have HY2 : Hid (la N d = A) := (by show _ = _; rw [← HY.out]; exact la_step HE.out yl' hd)
          have MS : Hid (msr N d < msr N y) := (by
            show _ < _
            unfold msr
            rw [if_neg (by omega), if_neg (by omega), Int.toNat_natCast, Int.toNat_natCast, pth_step HE.out yl' (d := d) hd]
            simp)
          have dl : d < n := by omega
          rw [hd] at q e'
          clear e vb hd
          go_wp2_with fail
          go_round
          case rel => exact ⟨d, dl, rfl, HY2⟩
          case measure => exact MS.out
end Go.Proofs.Ytagkbglgdmajhaa.Ct
