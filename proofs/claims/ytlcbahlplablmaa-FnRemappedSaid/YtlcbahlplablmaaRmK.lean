/- Remap: the program. -/
import Derived.Test.YtlcbahlplablmaaRmJ
import Derived.Deep.RegionHeldLaw
import Derived.Deep.AppendLies
import Derived.Maps.AppendAt
namespace Go.Proofs.Ytlcbahlplablmaa.Rm
open Go.ChangeShapes Go.WideShapes Go.ChangeAt Go.RowKit
open Go.Proofs.Ytlcbahlplablmaa.Lists

theorem nil_row (w : World) (B : Nat) : w.ownsRow B 2 1 (.slice none 0 0) 0 [] := ⟨rfl, .inl ⟨rfl, rfl⟩⟩

set_option maxHeartbeats 1000000 in
theorem irem_no (E A T : List Int) (ve va vt : Value) (w : World) (hE : Lists.Reads w ve E) (hA : Lists.Reads w va A) (hT : Lists.Reads w vt T) (lE : E.length < 9223372036854775808) (h : okR E A T = false) :
    Calls Try.prog 7 #[ve, va, vt] w fun e w' => ∃ v', e = .returned (.tuple #[v', .bool false]) ∧ w'.ownsRow w.heap.size 2 1 v' 0 [] ∧ Below w.heap.size w w' := by
  have C1 : Hid (∀ w', w' = w → Calls Try.prog 17 #[ve] w' fun e w'' => e = .returned (.bool (okE E)) ∧ w'' = w') := fun w' hw => by subst hw; exact iedges_any E ve w' hE
  have C2 : Hid (∀ w', w' = w → Calls Try.prog 17 #[vt] w' fun e w'' => e = .returned (.bool (okE T)) ∧ w'' = w') := fun w' hw => by subst hw; exact iedges_any T vt w' hT
  have j0 : IntKind.i64.wrap ((E.length : Int) - 1) = (E.length : Int) - 1 := IntWalk.i64_in _ (by omega)
  have C3 : Hid (okE E = true → okE T = true → ∀ w', w' = w → Calls Try.prog 18 #[va, .int .i64 ((E.length : Int) - 1)] w' fun e w'' => e = .returned (.bool false) ∧ w'' = w') := fun h1 h2 w' hw => by
    subst hw
    unfold okR heads at h
    rw [h1, h2, Bool.true_and, Bool.true_and] at h
    by_cases hn : (A.length : Int) = (E.length : Int) - 1
    · rw [decide_eq_true hn, Bool.true_and] at h
      have := iam_yes A va w' hA
      rwa [h, hn] at this
    · obtain ⟨a, cap, rfl⟩ := hA.form
      exact iam_no a A.length cap _ w' hn
  obtain ⟨a1, c1, rfl⟩ := hE.form
  obtain ⟨a2, c2, rfl⟩ := hA.form
  obtain ⟨a3, c3, rfl⟩ := hT.form
  clear hE hA hT h
  generalize okE E = e1 at *
  generalize okE T = e2 at *
  obtain ⟨n1, hn1⟩ : ∃ n, n = E.length := ⟨_, rfl⟩
  rw [← hn1] at j0 C1 C3 ⊢
  clear hn1 lE
  cases e1
  · clear C3 C2
    go_enter Try.func7, Try.ntmps7
    go_wp2_with fail
    refine (C1.out _ rfl).mono ?_
    rintro e w1 ⟨rfl, hw⟩
    have hw' := hw.symm
    subst hw'
    go_wp2_with fail
    go_ret2
    exact ⟨_, rfl, nil_row _ _, Below.refl _ _⟩
  · cases e2
    · clear C3
      go_enter Try.func7, Try.ntmps7
      go_wp2_with fail
      refine (C1.out _ rfl).mono ?_
      rintro e w1 ⟨rfl, hw⟩
      have hw' := hw.symm
      subst hw'
      go_wp2_with fail
      refine (C2.out _ rfl).mono ?_
      rintro e w2 ⟨rfl, hw⟩
      have hw2 := hw.symm
      subst hw2
      go_wp2_with fail
      go_ret2
      exact ⟨_, rfl, nil_row _ _, Below.refl _ _⟩
    · have C4 := C3.out rfl rfl
      have C5 : Hid (∀ w', w' = w → Calls Try.prog 18 #[.slice a2 A.length c2, .int .i64 ((n1 : Int) - 1)] w' fun e w'' => e = .returned (.bool false) ∧ w'' = w') := C4
      clear C3 C4
      go_enter Try.func7, Try.ntmps7
      go_wp2_with fail
      refine (C1.out _ rfl).mono ?_
      rintro e w1 ⟨rfl, hw⟩
      have hw' := hw.symm
      subst hw'
      go_wp2_with fail
      refine (C2.out _ rfl).mono ?_
      rintro e w2 ⟨rfl, hw⟩
      have hw2 := hw.symm
      subst hw2
      go_wp2_with fail
      refine (C5.out _ rfl).mono ?_
      rintro e w3 ⟨rfl, hw⟩
      have hw3 := hw.symm
      subst hw3
      go_wp2_with fail
      go_ret2
      exact ⟨_, rfl, nil_row _ _, Below.refl _ _⟩

set_option maxHeartbeats 1000000 in
theorem irem_yes (E A T : List Int) (ve va vt : Value) (w : World) (hE : Lists.Reads w ve E) (hA : Lists.Reads w va A) (hT : Lists.Reads w vt T) (h : heads E A T = true) (ha : okA A = true) :
    Calls Try.prog 7 #[ve, va, vt] w fun e w' => ∃ v', e = .returned (.tuple #[v', .bool true]) ∧ w'.ownsRow w.heap.size 2 1 v' (rem E A T (T.length - 1)).length (ints (rem E A T (T.length - 1))) ∧ Below w.heap.size w w' := by
  obtain ⟨h1, h2, h3, h4, h5, h6⟩ := heads_fit h
  have C1 : Hid (∀ w', w' = w → Calls Try.prog 17 #[ve] w' fun e w'' => e = .returned (.bool true) ∧ w'' = w') := fun w' hw => by subst hw; have := iedges_any E ve w' hE; rwa [h1] at this
  have C2 : Hid (∀ w', w' = w → Calls Try.prog 17 #[vt] w' fun e w'' => e = .returned (.bool true) ∧ w'' = w') := fun w' hw => by subst hw; have := iedges_any T vt w' hT; rwa [h2] at this
  have C3 : Hid (∀ w', w' = w → Calls Try.prog 18 #[va, .int .i64 (A.length : Int)] w' fun e w'' => e = .returned (.bool true) ∧ w'' = w') := fun w' hw => by subst hw; have := iam_yes A va w' hA; rwa [ha] at this
  have SB : Hid (∀ x, -1000000 ≤ x ∧ x ≤ 1000000 → ∀ w', Below w.heap.size w w' → Calls Try.prog 19 #[ve, va, .int .i64 x] w' fun e w'' => e = .returned (.int .i64 (bel E A x A.length)) ∧ ∃ m, w'' = w'.drewN m) := fun x hx w' hb => ibelow_any E A x hx ve va w' (hE.on hb) (hA.on hb) (fit_of h ha)
  have FT2 : Hid (Fit E A) := fit_of h ha
  have TB : Hid (∀ j, j < T.length → -1000000 ≤ T.getD j 0 ∧ T.getD j 0 ≤ 1000000) := (okE_parts h2).2.2.1
  obtain ⟨b', o', hc', hv'⟩ := reads_at hT
  obtain ⟨a1, c1, rfl⟩ := hE.form
  obtain ⟨a2, c2, rfl⟩ := hA.form
  obtain ⟨hb', c3, rfl⟩ := hv' (by omega)
  have HC' : Hid (∀ i, i < T.length → w.cell? ⟨b', o' + i, none⟩ = some (.int .i64 (T.getD i 0))) := hc'
  have j0 : IntKind.i64.wrap ((E.length : Int) - 1) = (A.length : Int) := by rw [show (E.length : Int) - 1 = (A.length : Int) by omega]; exact IntWalk.i64_in _ (by omega)
  have j1 : IntKind.i64.wrap ((T.length : Int) - 1) = ((T.length : Int) - 1) := IntWalk.i64_in _ (by omega)
  obtain ⟨n1, hn1⟩ : ∃ n, n = E.length := ⟨_, rfl⟩
  obtain ⟨n2, hn2⟩ : ∃ n, n = A.length := ⟨_, rfl⟩
  obtain ⟨n3, hn3⟩ : ∃ n, n = T.length := ⟨_, rfl⟩
  rw [← hn1] at h3 h4 j0 C1 SB ⊢
  rw [← hn2] at h3 j0 SB C3 ⊢
  rw [← hn3] at h5 h6 C2 j1 ⊢
  have HN2 : Hid (n2 = A.length) := hn2
  have HN3 : Hid (n3 = T.length) := hn3
  obtain ⟨X, hX⟩ : ∃ X, X = rem E A T (n3 - 1) := ⟨_, rfl⟩
  rw [← hX]
  have HE : Hid (X = rem E A T (n3 - 1)) := hX
  have j2 : wrap64 ((n1 : Int) - 1) = (n2 : Int) := by rw [show (n1 : Int) - 1 = (n2 : Int) by omega]; exact IntWalk.wrap64_in _ (by omega)
  have H34 : Hid (n2 + 1 = n1 ∧ n1 ≤ 257) := ⟨h3, h4⟩
  clear hE hA hT h h1 h2 hc' hv' hn1 hn2 hn3 hX ha h3 h4
  go_enter Try.func7, Try.ntmps7
  go_wp2_with fail
  refine (C1.out _ rfl).mono ?_
  rintro e w1 ⟨rfl, hw⟩
  have hw' := hw.symm
  subst hw'
  go_wp2_with fail
  refine (C2.out _ rfl).mono ?_
  rintro e w2 ⟨rfl, hw⟩
  have hw2 := hw.symm
  subst hw2
  go_wp2_with fail
  refine (C3.out _ rfl).mono ?_
  rintro e w3 ⟨rfl, hw⟩
  have hw3 := hw.symm
  subst hw3
  obtain ⟨i0, hi, hz0, hz1, hz2⟩ := info_parts Lists.Try.info2
  go_wp2_with fail
  clear j0 j2 C1 C2 C3
  obtain ⟨h7, h8⟩ := H34.out
  have BW : Hid (Below w.heap.size w w) := Below.refl _ _
  go_loopw [8, 29] (fun v i wr => ∃ k : Nat, k + 1 ≤ n3 ∧ i = .int .i64 k ∧ Hid (wr.ownsRow w.heap.size 2 1 v k (ints (rem E A T k))) ∧ Hid (Below w.heap.size w wr)) (fun _ i _ => n3 - (intOf i).toNat)
  case atStart => exact ⟨0, by omega, rfl, nil_row _ _, BW⟩
  case round =>
    obtain ⟨k, hk, rfl, R, BB⟩ := hrel
    have i2 : (0 : Int) ≤ (k : Int) := by omega
    have i6 : IntKind.i64.wrap ((k : Int) + 1) = (k : Int) + 1 := IntWalk.i64_in _ (by omega)
    have i7 : (0 : Int) ≤ (k : Int) + 1 := by omega
    by_cases hlt2 : k + 1 < n3
    · have q0 : wr.cell? ⟨b', o' + k, none⟩ = some (.int .i64 (T.getD k 0)) := (BB.out.cell (p := ⟨b', o' + k, none⟩) hb').trans (HC'.out k (by have := HN3.out; omega))
      have q1 : wr.cell? ⟨b', o' + (k + 1), none⟩ = some (.int .i64 (T.getD (k + 1) 0)) := (BB.out.cell (p := ⟨b', o' + (k + 1), none⟩) hb').trans (HC'.out (k + 1) (by have := HN3.out; omega))
      have i3 : (k : Int) < (n3 : Int) := by omega
      have i4 : (k : Int) + 1 < (n3 : Int) := by omega
      have i8 : (k : Int) < (n3 : Int) - 1 := by omega
      have RN : Hid (rem E A T (k + 1) = rem E A T k ++ [bel E A (T.getD (k + 1) 0) n2 - bel E A (T.getD k 0) n2]) := (by show _ = _; rw [HN2.out]; exact rem_next E A T k)
      have t0 := TB.out k (by have := HN3.out; omega)
      have t1 := TB.out (k + 1) (by have := HN3.out; omega)
      obtain ⟨g1, g2⟩ := bel_le FT2.out (T.getD k 0) n2 (by have := HN2.out; omega)
      obtain ⟨g3, g4⟩ := bel_le FT2.out (T.getD (k + 1) 0) n2 (by have := HN2.out; omega)
      have T0 : Hid (-1000000 ≤ T.getD k 0 ∧ T.getD k 0 ≤ 1000000) := t0
      have T1 : Hid (-1000000 ≤ T.getD (k + 1) 0 ∧ T.getD (k + 1) 0 ≤ 1000000) := t1
      have D1 : Hid (∀ w', Below w.heap.size w w' → Calls Try.prog 19 #[.slice a1 n1 c1, .slice a2 n2 c2, .int .i64 (T.getD (k + 1) 0)] w' fun e w'' => e = .returned (.int .i64 (bel E A (T.getD (k + 1) 0) n2)) ∧ ∃ m, w'' = w'.drewN m) := fun w' hb => SB.out _ T1.out w' hb
      have D0 : Hid (∀ w', Below w.heap.size w w' → Calls Try.prog 19 #[.slice a1 n1 c1, .slice a2 n2 c2, .int .i64 (T.getD k 0)] w' fun e w'' => e = .returned (.int .i64 (bel E A (T.getD k 0) n2)) ∧ ∃ m, w'' = w'.drewN m) := fun w' hb => SB.out _ T0.out w' hb
      have j9 : IntKind.i64.wrap (bel E A (T.getD (k + 1) 0) n2 - bel E A (T.getD k 0) n2) = bel E A (T.getD (k + 1) 0) n2 - bel E A (T.getD k 0) n2 := IntWalk.i64_in _ (by omega)
      clear t0 t1 g1 g2 g3 g4
      generalize bel E A (T.getD (k + 1) 0) n2 = y1 at *
      generalize bel E A (T.getD k 0) n2 = y0 at *
      generalize T.getD (k + 1) 0 = p1 at *
      generalize T.getD k 0 = p0 at *
      clear SB T0 T1 TB
      obtain ⟨sa, sc, hv⟩ : ∃ sa sc, u8 = .slice sa k sc := by
        rcases R.out.2 with ⟨h, h'⟩ | ⟨g, c, cur, h, _⟩
        · exact ⟨none, 0, by rw [h, h']⟩
        · exact ⟨_, _, h⟩
      subst hv
      have DW : Hid (Below w.heap.size w wr.drew) := below_drewN BB.out 1
      have RW : Hid (wr.drew.ownsRow w.heap.size 2 1 (.slice sa k sc) k (ints (rem E A T k))) := R.out
      have OL : ∀ g, (Value.slice sa k sc).ownBlock = some g → w.heap.size ≤ g := fun g hg => (R.out.lt g hg).1
      have zr := BB.out.size
      clear R
      go_wp2_with fail
      go_region_held_law (fun w' => w'.cell? ⟨b', o' + k, none⟩ = some (.int .i64 p0) ∧ w'.cell? ⟨b', o' + (k + 1), none⟩ = some (.int .i64 p1)) (first | go_keep | (go_split_ands; refine ⟨?_, ?_⟩ <;> (rw [hgrow.cell_far _ (by simp; omega) (fun h => by have := OL _ h.symm; simp at this; omega)]; assumption)))
        (first
        | (go_at_call_of 19 (Value.int IntKind.i64 p1); refine (D1.out _ DW.out).mono ?_; rintro e w3 ⟨rfl, m3, hw3⟩; have z3 : wr.heap.size = w3.heap.size := (by rw [hw3]; rfl); have r0 : w3.cell? ⟨b', o' + k, none⟩ = some (.int .i64 p0) := (by rw [hw3]; exact q0); have r1 : w3.cell? ⟨b', o' + (k + 1), none⟩ = some (.int .i64 p1) := (by rw [hw3]; exact q1); have R3 : Hid (w3.ownsRow w.heap.size 2 1 (.slice sa k sc) k (ints (rem E A T k))) := (by show World.ownsRow _ _ _ _ _ _ _; rw [hw3]; exact RW.out); have B3 : Hid (Below w.heap.size w w3) := (by show Below _ _ _; rw [hw3]; exact below_drewN DW.out _); clear hw3)
        | (go_at_call_of 19 (Value.int IntKind.i64 p0); refine (D0.out _ B3.out).mono ?_; rintro e w4 ⟨rfl, m4, hw4⟩; have z4 : w3.heap.size = w4.heap.size := (by rw [hw4]; rfl); have f0 : w4.cell? ⟨b', o' + k, none⟩ = some (.int .i64 p0) := (by rw [hw4]; exact r0); have f1 : w4.cell? ⟨b', o' + (k + 1), none⟩ = some (.int .i64 p1) := (by rw [hw4]; exact r1); have R4 : Hid (w4.ownsRow w.heap.size 2 1 (.slice sa k sc) k (ints (rem E A T k))) := (by show World.ownsRow _ _ _ _ _ _ _; rw [hw4]; exact R3.out); have B4 : Hid (Below w.heap.size w w4) := (by show Below _ _ _; rw [hw4]; exact below_drewN B3.out _); clear hw4)
        | (refine step_append_lies _ (by rfl) _ _ 24 (by rfl) w.heap.size 2 i0 (.int .i64 0) 1 8 Try.underlying24 hi hz0 hz1 hz2 rfl (by decide) _ _ _ (by rfl) (R4.out.alloc _) ⟨w4.heap.size, 0, none⟩ 1 1 [.int .i64 (y1 - y0)] (by rfl) rfl (cell_one_new w4 (.int .i64 (y1 - y0)) 2) (by intro u hu; simp at hu; subst hu; rfl) (by decide) (by unfold maxLen; omega) (by omega) (by simp; omega) (w4.heap.size + 1) (by simp) ?_; intro g2 cap3 w5 hown hgrow hat hlt5))
      have R5 : Hid (w5.ownsRow w.heap.size 2 1 (.slice (some ⟨g2, 0, none⟩) (k + 1) cap3) (k + 1) (ints (rem E A T (k + 1)))) := (by
        show World.ownsRow _ _ _ _ _ _ _
        rw [RN.out]
        simpa [ints] using hown)
      have B5 : Hid (Below w.heap.size w w5) := (B4.out.alloc B4.out.size _).grown hgrow (by simp; omega) (fun g hg => OL g hg)
      clear hown hgrow hat R3 B3 R4 B4 RW DW OL
      go_wp2_with fail
      go_roundw
      case rel => exact ⟨k + 1, by omega, by go_num, R5, B5⟩
      case measure => simp [intOf]; omega
    · have i4 : ¬ (k : Int) < (n3 : Int) - 1 := by omega
      have ek : n3 - 1 = k := by omega
      have RE : Hid (wr.ownsRow w.heap.size 2 1 u8 (rem E A T (n3 - 1)).length (ints (rem E A T (n3 - 1)))) := (by show World.ownsRow _ _ _ _ _ _ _; rw [ek, rem_len]; exact R.out)
      clear R ek
      go_wp2_with fail
      go_ret2
      exact ⟨_, rfl, by rw [HE.out]; exact RE.out, BB.out⟩
theorem iremap_any (E A T : List Int) (ve va vt : Value) (w : World) (hE : Lists.Reads w ve E) (hA : Lists.Reads w va A) (hT : Lists.Reads w vt T) (lE : E.length < 9223372036854775808) :
    Calls Try.prog 7 #[ve, va, vt] w fun e w' => ∃ v', e = .returned (.tuple #[v', .bool (okR E A T)]) ∧ w'.ownsRow w.heap.size 2 1 v' (remap E A T).length (ints (remap E A T)) ∧ Below w.heap.size w w' := by
  unfold remap
  cases h : okR E A T
  · exact irem_no E A T ve va vt w hE hA hT lE h
  · have h' := h
    unfold okR at h'
    rw [Bool.and_eq_true] at h'
    exact irem_yes E A T ve va vt w hE hA hT h'.1 h'.2
end Go.Proofs.Ytlcbahlplablmaa.Rm
