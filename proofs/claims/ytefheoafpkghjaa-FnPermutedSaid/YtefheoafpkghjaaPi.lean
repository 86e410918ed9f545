/- Permuted: the model. -/
import Derived.Test.YtefheoafpkghjaaPh
namespace Go.Proofs.Ytefheoafpkghjaa.Pe
open Go.ChangeShapes Go.WideShapes Go.ChangeAt Go.RowKit
open Go.Proofs.Ytefheoafpkghjaa.Lists Go.Proofs.Ytefheoafpkghjaa.Al

theorem below_drewN {B : Nat} {a w : World} (h : Below B a w) (n : Nat) : Below B a (w.drewN n) := h.trans ⟨rfl, rfl, rfl, Nat.le_refl _, fun _ _ => rfl⟩
theorem ints_app (A B : List Int) : ints (A ++ B) = ints A ++ ints B := by simp [ints]
theorem inB_app {A B : List Int} (hA : inB A) (hB : inB B) : inB (A ++ B) := fun z hz => by
  rcases List.mem_append.mp hz with h | h
  · exact hA z h
  · exact hB z h
def pm (A B : List Int) : Int × Int := if okU A 8 && okU B 8 then wy (A ++ B) A.length (tot A A.length) else (0, 0)
theorem okU_len {L : List Int} (h : (L.length : Int) ≤ 8) : okU L 60 = okU L 8 := by
  unfold okU
  have : inn L.length 1 60 = inn L.length 1 8 := by
    unfold inn
    have a : decide ((L.length : Int) ≤ 60) = true := by simp; omega
    have b : decide ((L.length : Int) ≤ 8) = true := by simp; omega
    rw [a, b]
  rw [this]
theorem okU_far {L : List Int} (h : ¬ ((1 : Int) ≤ L.length ∧ (L.length : Int) ≤ 8)) : okU L 8 = false := by
  cases e : okU L 8
  · rfl
  · have := okU_parts e; omega

set_option maxHeartbeats 1000000 in
theorem smod_far (A B : List Int) (va vb : Value) (w : World) (hA : Lists.Reads w va A) (hB : Lists.Reads w vb B) (fA : A.length < 9223372036854775808) (fB : B.length < 9223372036854775808) (h : ¬ (((1 : Int) ≤ A.length ∧ (A.length : Int) ≤ 8) ∧ ((1 : Int) ≤ B.length ∧ (B.length : Int) ≤ 8))) :
    Calls Try.prog 6 #[va, vb] w fun e w' => e = .returned (.tuple #[.int .i64 0, .int .i64 0]) ∧ Below w.heap.size w w' := by
  obtain ⟨a, ca, rfl⟩ := hA.form
  obtain ⟨b, cb, rfl⟩ := hB.form
  clear hA hB
  generalize A.length = n at *
  generalize B.length = m at *
  by_cases h1 : (n : Int) < 1
  · go_enter Try.func6, Try.ntmps6
    go_wp2_with fail
    exact bodyPost_ret (v := .tuple #[.int .i64 0, .int .i64 0]) (by simp [results, Try.results6, go_sem]) rfl ⟨rfl, Below.refl _ _⟩
  · by_cases h2 : (8 : Int) < n
    · go_enter Try.func6, Try.ntmps6
      go_wp2_with fail
      exact bodyPost_ret (v := .tuple #[.int .i64 0, .int .i64 0]) (by simp [results, Try.results6, go_sem]) rfl ⟨rfl, Below.refl _ _⟩
    · by_cases h3 : (m : Int) < 1
      · go_enter Try.func6, Try.ntmps6
        go_wp2_with fail
        exact bodyPost_ret (v := .tuple #[.int .i64 0, .int .i64 0]) (by simp [results, Try.results6, go_sem]) rfl ⟨rfl, Below.refl _ _⟩
      · have h4 : (8 : Int) < m := by omega
        go_enter Try.func6, Try.ntmps6
        go_wp2_with fail
        exact bodyPost_ret (v := .tuple #[.int .i64 0, .int .i64 0]) (by simp [results, Try.results6, go_sem]) rfl ⟨rfl, Below.refl _ _⟩

set_option maxHeartbeats 1000000 in
theorem smod_no (A B : List Int) (va vb : Value) (w : World) (hA : Lists.Reads w va A) (hB : Lists.Reads w vb B) (hn : (1 : Int) ≤ A.length ∧ (A.length : Int) ≤ 8) (hm : (1 : Int) ≤ B.length ∧ (B.length : Int) ≤ 8) (h : ¬ (okU A 60 = true ∧ okU B 60 = true)) :
    Calls Try.prog 6 #[va, vb] w fun e w' => e = .returned (.tuple #[.int .i64 0, .int .i64 0]) ∧ Below w.heap.size w w' := by
  have CA : Hid (∀ k, Calls Try.prog 11 #[va] (w.drewN k) fun e w' => e = .returned (.bool (okU A 60)) ∧ ∃ m, w' = w.drewN m) := fun k => (sok_any A va (w.drewN k) hA (by omega)).mono (by
    rintro e w' ⟨rfl, m', rfl⟩
    exact ⟨rfl, k + m', by simp⟩)
  have CB : Hid (∀ k, Calls Try.prog 11 #[vb] (w.drewN k) fun e w' => e = .returned (.bool (okU B 60)) ∧ ∃ m, w' = w.drewN m) := fun k => (sok_any B vb (w.drewN k) hB (by omega)).mono (by
    rintro e w' ⟨rfl, m', rfl⟩
    exact ⟨rfl, k + m', by simp⟩)
  obtain ⟨a, ca, rfl⟩ := hA.form
  obtain ⟨b, cb, rfl⟩ := hB.form
  clear hA hB
  generalize okU A 60 = oA at *
  generalize okU B 60 = oB at *
  generalize A.length = n at *
  generalize B.length = m at *
  have BB : Hid (∀ k, Below w.heap.size w (w.drewN k)) := fun k => below_drewN (Below.refl _ _) k
  have h1 : ¬ (n : Int) < 1 := by omega
  have h2 : ¬ (8 : Int) < n := by omega
  have h3 : ¬ (m : Int) < 1 := by omega
  have h4 : ¬ (8 : Int) < m := by omega
  cases oA
  · go_enter Try.func6, Try.ntmps6
    go_wp2_with fail
    refine (CA.out 0).mono ?_
    rintro e w1 ⟨rfl, k, rfl⟩
    go_wp2_with fail
    exact bodyPost_ret (v := .tuple #[.int .i64 0, .int .i64 0]) (by simp [results, Try.results6, go_sem]) rfl ⟨rfl, BB.out _⟩
  · have e : oB = false := by simpa using h
    subst e
    go_enter Try.func6, Try.ntmps6
    go_wp2_with fail
    refine (CA.out 0).mono ?_
    rintro e w1 ⟨rfl, k, rfl⟩
    go_wp2_with fail
    refine (CB.out k).mono ?_
    rintro e w1 ⟨rfl, k, rfl⟩
    go_wp2_with fail
    exact bodyPost_ret (v := .tuple #[.int .i64 0, .int .i64 0]) (by simp [results, Try.results6, go_sem]) rfl ⟨rfl, BB.out _⟩

set_option maxHeartbeats 1000000 in
theorem smod_yes (A B : List Int) (va vb : Value) (w : World) (hA : Lists.Reads w va A) (hB : Lists.Reads w vb B) (hn : (1 : Int) ≤ A.length ∧ (A.length : Int) ≤ 8) (hm : (1 : Int) ≤ B.length ∧ (B.length : Int) ≤ 8) (oA : okU A 60 = true) (oB : okU B 60 = true) :
    Calls Try.prog 6 #[va, vb] w fun e w' => e = .returned (.tuple #[.int .i64 (wy (A ++ B) A.length (tot A A.length)).1, .int .i64 (wy (A ++ B) A.length (tot A A.length)).2]) ∧ Below w.heap.size w w' := by
  obtain ⟨i0, hi, hz0, hz1, hz2⟩ := info_parts Lists.Try.info2
  have CA : Hid (∀ k, Calls Try.prog 11 #[va] (w.drewN k) fun e w' => e = .returned (.bool true) ∧ ∃ m, w' = w.drewN m) := fun k => (sok_any A va (w.drewN k) hA (by omega)).mono (by
    rintro e w' ⟨rfl, m', rfl⟩
    exact ⟨by rw [oA], k + m', by simp⟩)
  have CB : Hid (∀ k, Calls Try.prog 11 #[vb] (w.drewN k) fun e w' => e = .returned (.bool true) ∧ ∃ m, w' = w.drewN m) := fun k => (sok_any B vb (w.drewN k) hB (by omega)).mono (by
    rintro e w' ⟨rfl, m', rfl⟩
    exact ⟨by rw [oB], k + m', by simp⟩)
  have iA : Hid (inB A) := (okU_parts oA).2
  have iB : Hid (inB B) := (okU_parts oB).2
  obtain ⟨ba, pa, hcA, hvA⟩ := reads_at hA
  obtain ⟨sA, ca, rfl⟩ := hvA (by omega)
  obtain ⟨bb, pb, hcB, hvB⟩ := reads_at hB
  obtain ⟨sB, cb, rfl⟩ := hvB (by omega)
  have NA : Hid (∀ w', Below w.heap.size w w' → ∀ j u, (ints A)[j]? = some u → w'.cell? ((⟨ba, pa, none⟩ : Addr).add j) = some u) := fun w' hb => news_of fun i hi => by rw [hb.cell (p := ⟨ba, pa + i, none⟩) sA]; exact hcA i hi
  have NB : Hid (∀ w', Below w.heap.size w w' → ∀ j u, (ints B)[j]? = some u → w'.cell? ((⟨bb, pb, none⟩ : Addr).add j) = some u) := fun w' hb => news_of fun i hi => by rw [hb.cell (p := ⟨bb, pb + i, none⟩) sB]; exact hcB i hi
  have HC : Hid (∀ i, i < A.length → w.cell? ⟨ba, pa + i, none⟩ = some (.int .i64 (A.getD i 0))) := hcA
  have LA : Hid ((ints A).length = A.length * 1) := (by show _ = _; simp [ints])
  have LBB : Hid ((ints B).length = B.length * 1) := (by show _ = _; simp [ints])
  have BB : Hid (∀ k, Below w.heap.size w (w.drewN k)) := fun k => below_drewN (Below.refl _ _) k
  have h1 : ¬ (A.length : Int) < 1 := by omega
  have h2 : ¬ (8 : Int) < A.length := by omega
  have h3 : ¬ (B.length : Int) < 1 := by omega
  have h4 : ¬ (8 : Int) < B.length := by omega
  have HI : Hid (Try.prog.info? 2 = some i0) := hi
  clear hA hB hcA hcB hvA hvB oA oB
  obtain ⟨n, hn'⟩ : ∃ n, n = A.length := ⟨_, rfl⟩
  obtain ⟨m, hm'⟩ : ∃ m, m = B.length := ⟨_, rfl⟩
  rw [← hn'] at hn h1 h2 LA CA ⊢
  rw [← hm'] at hm h3 h4 LBB CB ⊢
  have HN : Hid (n = A.length) := hn'
  have HM : Hid (m = B.length) := hm'
  clear hn' hm'
  obtain ⟨r1, hr1⟩ : ∃ r, r = (wy (A ++ B) n (tot A n)).1 := ⟨_, rfl⟩
  obtain ⟨r2, hr2⟩ : ∃ r, r = (wy (A ++ B) n (tot A n)).2 := ⟨_, rfl⟩
  rw [← hr1, ← hr2]
  have HR1 : Hid (r1 = (wy (A ++ B) n (tot A n)).1) := hr1
  have HR2 : Hid (r2 = (wy (A ++ B) n (tot A n)).2) := hr2
  clear hr1 hr2
  go_enter Try.func6, Try.ntmps6
  go_wp2_with fail
  refine (CA.out 0).mono ?_
  rintro e w1 ⟨rfl, k, rfl⟩
  go_wp2_with fail
  refine (CB.out k).mono ?_
  rintro e w1 ⟨rfl, r, rfl⟩
  have R0 : Hid (((w.drewN r).alloc (Obj.cells #[] 2)).ownsRow w.heap.size 2 1 (.slice (some ⟨w.heap.size, 0, none⟩) 0 0) 0 (ints [])) := World.ownsRow_lit (w.drewN r) #[] 0 (Nat.le_refl _) (Nat.zero_le _) rfl
  have B0 : Hid (Below w.heap.size w ((w.drewN r).alloc (Obj.cells #[] 2))) := (BB.out r).alloc (Nat.le_refl _) _
  go_wp2_with fail
  go_loop [6, 7] (fun s i => ∃ k : Nat, k ≤ n ∧ i = .int .i64 k ∧ s = .int .i64 (tot A k)) (fun _ i => n - (intOf i).toNat)
  case atStart => exact ⟨0, by omega, rfl, rfl⟩
  case round =>
    obtain ⟨k, hk, rfl, rfl⟩ := hrel
    by_cases hlt : k < n
    · have hkl : k < A.length := by rw [← HN.out]; exact hlt
      have q : ∀ r, (w.drewN r).cell? ⟨ba, pa + k, none⟩ = some (.int .i64 (A.getD k 0)) := fun r => HC.out k hkl
      have i1 : (0 : Int) ≤ (k : Int) := by omega
      have i2 : (k : Int) < (n : Int) := by omega
      have E : Hid (tot A (k + 1) = tot A k + A.getD k 0) := rfl
      have bd := tot_bd iA.out k (by omega)
      have bz := iA.out (A.getD k 0) (by simp [List.getD_eq_getElem?_getD, hkl])
      generalize tot A k = s at *
      generalize A.getD k 0 = z at *
      go_wp2_with fail
      go_round
      case rel => exact ⟨k + 1, by omega, by go_num, by rw [E.out]⟩
      case measure => simp [intOf]; omega
    · have hkn : k = n := by omega
      subst hkn
      have z0 := B0.out.size
      clear hi
      go_wp2_with (at_builtin; refine wpList_append_own _ rfl _ _ 24 rfl w.heap.size 2 i0 (.int .i64 0) 1 8 Try.underlying24 HI.out hz0 hz1 hz2 rfl (by decide) _ _ _ rfl R0.out ⟨ba, pa, none⟩ k ca (ints A) rfl LA.out (NA.out _ B0.out) (one_ints A) (by unfold maxLen; omega) (by omega) z0 ?_)
      · intro v5 w5 hown hgrow _
        have R5 : Hid (w5.ownsRow w.heap.size 2 1 v5 k (ints A)) := (by show World.ownsRow _ _ _ _ _ _ _; simpa [ints] using hown)
        have B5 : Hid (Below w.heap.size w w5) := B0.out.grown hgrow z0 (fun b hb => (R0.out.lt b hb).1)
        have z5 := B5.out.size
        clear hown hgrow z0
        go_wp2_with (at_builtin; refine wpList_append_own _ rfl _ _ 24 rfl w.heap.size 2 i0 (.int .i64 0) 1 8 Try.underlying24 HI.out hz0 hz1 hz2 rfl (by decide) _ _ _ rfl R5.out ⟨bb, pb, none⟩ m cb (ints B) rfl LBB.out (NB.out _ B5.out) (one_ints B) (by unfold maxLen; omega) (by omega) z5 ?_)
        · intro v6 w6 hown hgrow _
          have R6 : Hid (w6.ownsRow w.heap.size 2 1 v6 (k + m) (ints A ++ ints B)) := hown
          have B6 : Hid (Below w.heap.size w w6) := B5.out.grown hgrow z5 (fun b hb => (R5.out.lt b hb).1)
          clear hown hgrow z5
          have W : Hid (Calls Try.prog 12 #[v6, .int .i64 0, .int .i64 (k : Int), .int .i64 (tot A k)] w6 fun e w' => e = .returned (.tuple #[.int .i64 r1, .int .i64 r2]) ∧ w' = w6) := (by
            have r6 := R6.out
            have eL : k + m = (A ++ B).length := by rw [List.length_append, ← HN.out, ← HM.out]
            rw [eL, ← ints_app] at r6
            have td := tot_bd iA.out k (by have := HN.out; omega)
            have := ways_any (A ++ B) v6 w6 (reads_row r6) (by omega) (inB_app iA.out iB.out) (A ++ B).length 0 k (tot A k) (by omega) (by omega) (by omega) (by rw [← eL]; omega)
            rw [List.drop_zero, ← HR1.out, ← HR2.out] at this
            exact this)
          go_wp2_with fail
          refine W.out.mono ?_
          rintro e w7 ⟨rfl, hw⟩
          have hw' := hw.symm
          subst hw'
          go_wp2_with fail
          exact bodyPost_ret (v := .tuple #[.int .i64 r1, .int .i64 r2]) (by simp [results, Try.results6, go_sem]) rfl ⟨rfl, B6.out⟩
end Go.Proofs.Ytefheoafpkghjaa.Pe
