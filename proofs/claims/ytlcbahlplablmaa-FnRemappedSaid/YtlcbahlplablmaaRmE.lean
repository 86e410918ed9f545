/- Amounts that come to other edges: the model, where the edges are right. -/
import Derived.Test.YtlcbahlplablmaaRmD
namespace Go.Proofs.Ytlcbahlplablmaa.Rm
open Go.ChangeShapes Go.WideShapes Go.ChangeAt Go.RowKit
open Go.Proofs.Ytlcbahlplablmaa.Lists

theorem heads_fit {E A T : List Int} (h : heads E A T = true) : okE E = true ∧ okE T = true ∧ A.length + 1 = E.length ∧ E.length ≤ 257 ∧ 2 ≤ T.length ∧ T.length ≤ 257 := by
  unfold heads at h
  simp only [Bool.and_eq_true, decide_eq_true_eq] at h
  have a := okE_parts h.1
  have b := okE_parts h.2.1
  exact ⟨h.1, h.2.1, by omega, a.2.1, b.1, b.2.1⟩
theorem fit_of {E A T : List Int} (h : heads E A T = true) (hA : okA A = true) : Fit E A := by
  obtain ⟨h1, h2, h3, h4, _⟩ := heads_fit h
  obtain ⟨_, _, p, q⟩ := okE_parts h1
  refine ⟨h4, h3, p, q, fun j hj => ?_⟩
  unfold okA at hA
  rw [List.all_eq_true] at hA
  have := hA (A.getD j 0) (by simp [List.getD_eq_getElem?_getD, hj])
  rwa [inn_iff] at this

set_option maxHeartbeats 1000000 in
theorem srem_tail (E A T : List Int) (ve va vt : Value) (w : World) (hE : Lists.Reads w ve E) (hA : Lists.Reads w va A) (hT : Lists.Reads w vt T) (h : heads E A T = true) :
    Calls Try.prog 6 #[ve, va, vt] w fun e w' => ∃ v', e = .returned (.tuple #[v', .bool (okA A)]) ∧ w'.ownsRow w.heap.size 2 1 v' (if okA A then rem E A T (T.length - 1) else []).length (ints (if okA A then rem E A T (T.length - 1) else [])) ∧ Below w.heap.size w w' := by
  obtain ⟨h1, h2, h3, h4, h5, h6⟩ := heads_fit h
  have R0 : Hid ((w.alloc (Obj.cells #[] 2)).ownsRow w.heap.size 2 1 (.slice (some ⟨w.heap.size, 0, none⟩) 0 0) 0 []) := World.ownsRow_lit w #[] 0 (Nat.le_refl _) (Nat.zero_le _) rfl
  have B0 : Hid (Below w.heap.size w (w.alloc (Obj.cells #[] 2))) := (Below.refl _ _).alloc (Nat.le_refl _) _
  have C1 : Hid (∀ w', Below w.heap.size w w' → Calls Try.prog 14 #[ve] w' fun e w'' => e = .returned (.bool true) ∧ ∃ m, w'' = w'.drewN m) := fun w' hb => by have := sedges_any E ve w' (hE.on hb) (by omega); rwa [h1] at this
  have C2 : Hid (∀ w', Below w.heap.size w w' → Calls Try.prog 14 #[vt] w' fun e w'' => e = .returned (.bool true) ∧ ∃ m, w'' = w'.drewN m) := fun w' hb => by have := sedges_any T vt w' (hT.on hb) (by omega); rwa [h2] at this
  have SB : Hid (okA A = true → ∀ x, -1000000 ≤ x ∧ x ≤ 1000000 → ∀ w', Below w.heap.size w w' → Calls Try.prog 16 #[ve, va, .int .i64 x] w' fun e w'' => e = .returned (.int .i64 (bel E A x A.length)) ∧ ∃ m, w'' = w'.drewN m) := fun ha x hx w' hb => sbelow_any E A x hx ve va w' (hE.on hb) (hA.on hb) (fit_of h ha)
  have FT : Hid (okA A = true → Fit E A) := fun ha => fit_of h ha
  have TB : Hid (∀ j, j < T.length → -1000000 ≤ T.getD j 0 ∧ T.getD j 0 ≤ 1000000) := (okE_parts h2).2.2.1
  obtain ⟨b, o, hc, hv⟩ := reads_at hA
  obtain ⟨b', o', hc', hv'⟩ := reads_at hT
  obtain ⟨a1, c1, rfl⟩ := hE.form
  obtain ⟨a2, c2, rfl⟩ := hA.form
  obtain ⟨hb', c3, rfl⟩ := hv' (by omega)
  have HC : Hid (∀ i, i < A.length → w.cell? ⟨b, o + i, none⟩ = some (.int .i64 (A.getD i 0))) := hc
  have HC' : Hid (∀ i, i < T.length → w.cell? ⟨b', o' + i, none⟩ = some (.int .i64 (T.getD i 0))) := hc'
  have HV : Hid (0 < A.length → b < w.heap.size ∧ a2 = some ⟨b, o, none⟩) := fun hi => by
    obtain ⟨h1, c, h2⟩ := hv hi
    simp at h2
    exact ⟨h1, h2.1⟩
  have j0 : IntKind.i64.wrap ((E.length : Int) - 1) = (A.length : Int) := by rw [show (E.length : Int) - 1 = (A.length : Int) by omega]; exact IntWalk.i64_in _ (by omega)
  obtain ⟨n1, hn1⟩ : ∃ n, n = E.length := ⟨_, rfl⟩
  obtain ⟨n2, hn2⟩ : ∃ n, n = A.length := ⟨_, rfl⟩
  obtain ⟨n3, hn3⟩ : ∃ n, n = T.length := ⟨_, rfl⟩
  rw [← hn1] at h3 h4 j0 C1 SB ⊢
  rw [← hn2] at h3 j0 SB ⊢
  rw [← hn3] at h5 h6 C2 ⊢
  have HN2 : Hid (n2 = A.length) := hn2
  have HN3 : Hid (n3 = T.length) := hn3
  obtain ⟨X, hX⟩ : ∃ X, (if okA A then rem E A T (n3 - 1) else []) = X := ⟨_, rfl⟩
  rw [hX]
  have HX0 : Hid (okA A = false → X = []) := fun h => by rw [← hX, h]; rfl
  have HX1 : Hid (okA A = true → X = rem E A T (n3 - 1)) := fun h => by rw [← hX, h]; rfl
  obtain ⟨ro, hro⟩ : ∃ ro, okA A = ro := ⟨_, rfl⟩
  rw [hro]
  have HRO : Hid (okA A = ro) := hro
  clear hE hA hT h h1 h2 hc hv hc' hv' hn1 hn2 hn3 hX hro
  go_enter Try.func6, Try.ntmps6
  go_wp2_with fail
  refine (C1.out _ B0.out).mono ?_
  rintro e w1 ⟨rfl, m1, hw⟩
  have R1 : Hid (w1.ownsRow w.heap.size 2 1 (.slice (some ⟨w.heap.size, 0, none⟩) 0 0) 0 []) := (by show World.ownsRow _ _ _ _ _ _ _; rw [hw]; exact R0.out)
  have B1 : Hid (Below w.heap.size w w1) := (by show Below _ _ _; rw [hw]; exact below_drewN B0.out _)
  clear hw R0 B0
  go_wp2_with fail
  refine (C2.out _ B1.out).mono ?_
  rintro e w2 ⟨rfl, m2, hw⟩
  have R2 : Hid (w2.ownsRow w.heap.size 2 1 (.slice (some ⟨w.heap.size, 0, none⟩) 0 0) 0 []) := (by show World.ownsRow _ _ _ _ _ _ _; rw [hw]; exact R1.out)
  have B2 : Hid (Below w.heap.size w w2) := (by show Below _ _ _; rw [hw]; exact below_drewN B1.out _)
  clear hw R1 B1 C1 C2
  go_wp2_with fail
  clear j0
  go_loop [9] (fun i => ∃ k : Nat, k ≤ n2 ∧ i = .int .i64 k ∧ Hid (∀ j, j < k → inn (A.getD j 0) 0 1000000000000 = true)) (fun i => n2 - (intOf i).toNat)
  case atStart => exact ⟨0, Nat.zero_le _, rfl, fun j hj => absurd hj (by omega)⟩
  case round =>
    obtain ⟨k, hk, rfl, OK⟩ := hrel
    by_cases hlt : k < n2
    · have hkl : k < A.length := by have := HN2.out; omega
      obtain ⟨hb, hx⟩ := HV.out (by omega)
      subst hx
      have q : w2.cell? ⟨b, o + k, none⟩ = some (.int .i64 (A.getD k 0)) := (B2.out.cell (p := ⟨b, o + k, none⟩) hb).trans (HC.out k hkl)
      have i2 : (0 : Int) ≤ (k : Int) := by omega
      have i3 : (k : Int) < (n2 : Int) := by omega
      have C3 : Hid (∀ w, Calls Try.prog 15 #[.int .i64 (A.getD k 0), .int .i64 0, .int .i64 1000000000000] w fun e w' => e = .returned (.bool (inn (A.getD k 0) 0 1000000000000)) ∧ w' = w) := fun w => s_in _ _ _ w
      cases hz : inn (A.getD k 0) 0 1000000000000
      · have HF : Hid (okA A = false) := (by
          show _ = _
          unfold okA
          rw [List.all_eq_false]
          exact ⟨A.getD k 0, by simp [List.getD_eq_getElem?_getD, hkl], by rw [hz]; simp⟩)
        rw [hz] at C3
        clear hz
        generalize A.getD k 0 = z at *
        go_wp2_with fail
        refine (C3.out _).mono ?_
        rintro e w3 ⟨rfl, hw⟩
        have hw' := hw.symm
        subst hw'
        go_wp2_with fail
        go_ret2
        exact ⟨_, by rw [← HRO.out, HF.out]; rfl, by rw [HX0.out HF.out]; exact R2.out, B2.out⟩
      · have OK2 : Hid (∀ j, j < k + 1 → inn (A.getD j 0) 0 1000000000000 = true) := fun j hj => by
          by_cases e : j = k
          · rw [e]; exact hz
          · exact OK.out j (by omega)
        rw [hz] at C3
        clear hz
        generalize A.getD k 0 = z at *
        go_wp2_with fail
        refine (C3.out _).mono ?_
        rintro e w3 ⟨rfl, hw⟩
        have hw' := hw.symm
        subst hw'
        go_wp2_with fail
        go_round
        case rel => exact ⟨k + 1, by omega, by go_num, OK2⟩
        case measure => simp [intOf]; omega
    · have HT : Hid (okA A = true) := (by
        show _ = _
        unfold okA
        rw [List.all_eq_true]
        intro d hd
        obtain ⟨j, hj, rfl⟩ := List.getElem_of_mem hd
        have := OK.out j (by have := HN2.out; omega)
        simpa [List.getD_eq_getElem?_getD, hj] using this)
      have SB2 : Hid _ := SB.out HT.out
      have FT2 : Hid (Fit E A) := FT.out HT.out
      have HE : Hid (X = rem E A T (n3 - 1)) := HX1.out HT.out
      clear SB FT OK
      obtain ⟨i0, hi, hz0, hz1, hz2⟩ := info_parts Lists.Try.info2
      go_wp2_with fail
      go_loopw [8, 10] (fun v i wr => ∃ k : Nat, k + 1 ≤ n3 ∧ i = .int .i64 k ∧ Hid (wr.ownsRow w.heap.size 2 1 v k (ints (rem E A T k))) ∧ Hid (Below w.heap.size w wr)) (fun _ i _ => n3 - (intOf i).toNat)
      case atStart => exact ⟨0, by omega, rfl, R2, B2⟩
      case round =>
        obtain ⟨k, hk, rfl, R, BB⟩ := hrel
        have i2 : (0 : Int) ≤ (k : Int) := by omega
        have i6 : IntKind.i64.wrap ((k : Int) + 1) = (k : Int) + 1 := IntWalk.i64_in _ (by omega)
        have i7 : (0 : Int) ≤ (k : Int) + 1 := by omega
        by_cases hlt2 : k + 1 < n3
        · have q0 : wr.cell? ⟨b', o' + k, none⟩ = some (.int .i64 (T.getD k 0)) := (BB.out.cell (p := ⟨b', o' + k, none⟩) hb').trans (HC'.out k (by have := HN3.out; omega))
          have q1 : wr.cell? ⟨b', o' + (k + 1), none⟩ = some (.int .i64 (T.getD (k + 1) 0)) := (BB.out.cell (p := ⟨b', o' + (k + 1), none⟩) hb').trans (HC'.out (k + 1) (by have := HN3.out; omega))
          have i3 : (k : Int) < (n3 : Int) := by omega
          have i4 : (k : Int) + 1 < (n3 : Int) := by omega
          have RN : Hid (rem E A T (k + 1) = rem E A T k ++ [bel E A (T.getD (k + 1) 0) n2 - bel E A (T.getD k 0) n2]) := (by show _ = _; rw [HN2.out]; exact rem_next E A T k)
          have t0 := TB.out k (by have := HN3.out; omega)
          have t1 := TB.out (k + 1) (by have := HN3.out; omega)
          obtain ⟨g1, g2⟩ := bel_le FT2.out (T.getD k 0) n2 (by have := HN2.out; omega)
          obtain ⟨g3, g4⟩ := bel_le FT2.out (T.getD (k + 1) 0) n2 (by have := HN2.out; omega)
          have T0 : Hid (-1000000 ≤ T.getD k 0 ∧ T.getD k 0 ≤ 1000000) := t0
          have T1 : Hid (-1000000 ≤ T.getD (k + 1) 0 ∧ T.getD (k + 1) 0 ≤ 1000000) := t1
          have D1 : Hid (∀ w', Below w.heap.size w w' → Calls Try.prog 16 #[.slice a1 n1 c1, .slice a2 n2 c2, .int .i64 (T.getD (k + 1) 0)] w' fun e w'' => e = .returned (.int .i64 (bel E A (T.getD (k + 1) 0) n2)) ∧ ∃ m, w'' = w'.drewN m) := fun w' hb => SB2.out _ T1.out w' hb
          have D0 : Hid (∀ w', Below w.heap.size w w' → Calls Try.prog 16 #[.slice a1 n1 c1, .slice a2 n2 c2, .int .i64 (T.getD k 0)] w' fun e w'' => e = .returned (.int .i64 (bel E A (T.getD k 0) n2)) ∧ ∃ m, w'' = w'.drewN m) := fun w' hb => SB2.out _ T0.out w' hb
          have j9 : IntKind.i64.wrap (bel E A (T.getD (k + 1) 0) n2 - bel E A (T.getD k 0) n2) = bel E A (T.getD (k + 1) 0) n2 - bel E A (T.getD k 0) n2 := IntWalk.i64_in _ (by omega)
          clear t0 t1 g1 g2 g3 g4
          generalize bel E A (T.getD (k + 1) 0) n2 = y1 at *
          generalize bel E A (T.getD k 0) n2 = y0 at *
          generalize T.getD (k + 1) 0 = p1 at *
          generalize T.getD k 0 = p0 at *
          clear SB2 T0 T1 TB
          obtain ⟨sa, sc, hv⟩ : ∃ sa sc, u8 = .slice sa k sc := by
            rcases R.out.2 with ⟨h, h'⟩ | ⟨g, c, cur, h, _⟩
            · exact ⟨none, 0, by rw [h, h']⟩
            · exact ⟨_, _, h⟩
          subst hv
          have DW : Hid (Below w.heap.size w wr.drew) := below_drewN BB.out 1
          have RW : Hid (wr.drew.ownsRow w.heap.size 2 1 (.slice sa k sc) k (ints (rem E A T k))) := R.out
          have OL : ∀ g, (Value.slice sa k sc).ownBlock = some g → w.heap.size ≤ g := fun g hg => (R.out.lt g hg).1
          have zr := BB.out.size
          clear R
          go_wp2_with fail
          go_region_held_law (fun w' => w'.cell? ⟨b', o' + k, none⟩ = some (.int .i64 p0) ∧ w'.cell? ⟨b', o' + (k + 1), none⟩ = some (.int .i64 p1)) (first | go_keep | (go_split_ands; refine ⟨?_, ?_⟩ <;> (rw [hgrow.cell_far _ (by simp; omega) (fun h => by have := OL _ h.symm; simp at this; omega)]; assumption)))
            (first
            | (go_at_call_of 16 (Value.int IntKind.i64 p1); refine (D1.out _ DW.out).mono ?_; rintro e w3 ⟨rfl, m3, hw3⟩; have z3 : wr.heap.size = w3.heap.size := (by rw [hw3]; rfl); have r0 : w3.cell? ⟨b', o' + k, none⟩ = some (.int .i64 p0) := (by rw [hw3]; exact q0); have r1 : w3.cell? ⟨b', o' + (k + 1), none⟩ = some (.int .i64 p1) := (by rw [hw3]; exact q1); have R3 : Hid (w3.ownsRow w.heap.size 2 1 (.slice sa k sc) k (ints (rem E A T k))) := (by show World.ownsRow _ _ _ _ _ _ _; rw [hw3]; exact RW.out); have B3 : Hid (Below w.heap.size w w3) := (by show Below _ _ _; rw [hw3]; exact below_drewN DW.out _); clear hw3)
            | (go_at_call_of 16 (Value.int IntKind.i64 p0); refine (D0.out _ B3.out).mono ?_; rintro e w4 ⟨rfl, m4, hw4⟩; have z4 : w3.heap.size = w4.heap.size := (by rw [hw4]; rfl); have f0 : w4.cell? ⟨b', o' + k, none⟩ = some (.int .i64 p0) := (by rw [hw4]; exact r0); have f1 : w4.cell? ⟨b', o' + (k + 1), none⟩ = some (.int .i64 p1) := (by rw [hw4]; exact r1); have R4 : Hid (w4.ownsRow w.heap.size 2 1 (.slice sa k sc) k (ints (rem E A T k))) := (by show World.ownsRow _ _ _ _ _ _ _; rw [hw4]; exact R3.out); have B4 : Hid (Below w.heap.size w w4) := (by show Below _ _ _; rw [hw4]; exact below_drewN B3.out _); clear hw4)
            | (refine step_append_lies _ (by rfl) _ _ 24 (by rfl) w.heap.size 2 i0 (.int .i64 0) 1 8 Try.underlying24 hi hz0 hz1 hz2 rfl (by decide) _ _ _ (by rfl) (R4.out.alloc _) ⟨w4.heap.size, 0, none⟩ 1 1 [.int .i64 (y1 - y0)] (by rfl) rfl (cell_one_new w4 (.int .i64 (y1 - y0)) 2) (by intro u hu; simp at hu; subst hu; rfl) (by decide) (by unfold maxLen; omega) (by omega) (by simp; omega) (w4.heap.size + 1) (by simp) ?_; intro g2 cap3 w5 hown hgrow hat hlt5))
          have R5 : Hid (w5.ownsRow w.heap.size 2 1 (.slice (some ⟨g2, 0, none⟩) (k + 1) cap3) (k + 1) (ints (rem E A T (k + 1)))) := (by
            show World.ownsRow _ _ _ _ _ _ _
            rw [RN.out]
            simpa [ints] using hown)
          have B5 : Hid (Below w.heap.size w w5) := (B4.out.alloc B4.out.size _).grown hgrow (by simp; omega) (fun g hg => OL g hg)
          clear hown hgrow hat R3 B3 R4 B4 RW DW OL
          go_wp2_with fail
          go_roundw
          case rel => exact ⟨k + 1, by omega, by go_num, R5, B5⟩
          case measure => simp [intOf]; omega
        · have i4 : ¬ (k : Int) + 1 < (n3 : Int) := by omega
          have ek : n3 - 1 = k := by omega
          have RE : Hid (wr.ownsRow w.heap.size 2 1 u8 (rem E A T (n3 - 1)).length (ints (rem E A T (n3 - 1)))) := (by show World.ownsRow _ _ _ _ _ _ _; rw [ek, rem_len]; exact R.out)
          clear R ek
          go_wp2_with fail
          go_ret2
          exact ⟨_, by rw [← HRO.out, HT.out]; rfl, by rw [HE.out]; exact RE.out, BB.out⟩
theorem sremap_any (E A T : List Int) (ve va vt : Value) (w : World) (hE : Lists.Reads w ve E) (hA : Lists.Reads w va A) (hT : Lists.Reads w vt T) (lE : E.length < 9223372036854775808) (lT : T.length < 9223372036854775808) :
    Calls Try.prog 6 #[ve, va, vt] w fun e w' => ∃ v', e = .returned (.tuple #[v', .bool (okR E A T)]) ∧ w'.ownsRow w.heap.size 2 1 v' (remap E A T).length (ints (remap E A T)) ∧ Below w.heap.size w w' := by
  unfold remap okR
  cases h : heads E A T
  · exact srem_heads E A T ve va vt w hE hA hT lE lT h
  · have := srem_tail E A T ve va vt w hE hA hT h
    simpa using this
theorem remap_len (E A T : List Int) : (remap E A T).length ≤ 256 := by
  unfold remap
  cases h : okR E A T
  · simp
  · unfold okR at h
    rw [Bool.and_eq_true] at h
    have := (heads_fit h.1).2.2.2.2.2
    simp [rem_len]
    omega
end Go.Proofs.Ytlcbahlplablmaa.Rm
