/- Breaks: the model, the program, the law. -/
import Derived.Test.YtcdajejapcbllaaBk
namespace Go.Proofs.Ytcdajejapcbllaa.Bk
open Go.ChangeShapes Go.WideShapes Go.ChangeAt Go.RowKit
open Go.Proofs.Ytcdajejapcbllaa.Lists Go.Proofs.Ytcdajejapcbllaa.Al Go.Proofs.Ytcdajejapcbllaa.Su Go.Proofs.Ytcdajejapcbllaa.Se

theorem bk_step (f : Nat → Int) {k : Nat} (hk : 1 ≤ k) : bk f k = if (bk f (k - 1)).2 < f k then ((k : Int), f k) else bk f (k - 1) := by
  obtain ⟨j, rfl⟩ : ∃ j, k = j + 1 := ⟨k - 1, by omega⟩
  rfl
theorem s_no (L : List Int) (v : Value) (w : World) (hL : Lists.Reads w v L) (hf : L.length < 9223372036854775808) (hok : okS L = false) :
    Calls Try.prog 16 #[v] w fun e w' => e = .returned (.tuple #[.int .i64 0, .int .i64 0]) ∧ ∃ m, w' = w.drewN m := by
  have C : Hid (Calls Try.prog 15 #[v] w fun e w' => e = .returned (.bool (okS L)) ∧ ∃ m, w' = w.drewN m) := sok_any L v w hL hf
  rw [hok] at C
  obtain ⟨a, cap, rfl⟩ := hL.form
  clear hL hok
  generalize L.length = n at *
  go_enter Try.func16, Try.ntmps16
  go_wp2_with fail
  refine C.out.mono ?_
  rintro e w1 ⟨rfl, m0, rfl⟩
  go_wp2_with fail
  go_ret2
  exact ⟨rfl, _, rfl⟩
theorem i_no (L : List Int) (v : Value) (w : World) (hL : Lists.Reads w v L) (hf : L.length < 9223372036854775808) (hok : okS L = false) :
    Calls Try.prog 9 #[v] w fun e w' => e = .returned (.tuple #[.int .i64 0, .int .i64 0]) ∧ w' = w := by
  have C : Hid (Calls Try.prog 18 #[v] w fun e w' => e = .returned (.bool (okS L)) ∧ w' = w) := iok_any L v w hL hf
  rw [hok] at C
  obtain ⟨a, cap, rfl⟩ := hL.form
  clear hL hok
  generalize L.length = n at *
  go_enter Try.func9, Try.ntmps9
  go_wp2_with fail
  refine C.out.mono ?_
  rintro e w1 ⟨rfl, hw⟩
  subst hw
  go_wp2_with fail
  go_ret2
  exact ⟨rfl, rfl⟩

set_option maxHeartbeats 1000000 in
theorem s_yes (L : List Int) (v : Value) (w : World) (hL : Lists.Reads w v L) (hf : L.length < 9223372036854775808) (hok : okS L = true) :
    Calls Try.prog 16 #[v] w fun e w' => e = .returned (.tuple #[.int .i64 (bk (off L) (L.length - 1)).1, .int .i64 (max (bk (off L) (L.length - 1)).2 0)]) ∧ ∃ m, w' = w.drewN m := by
  have C : Hid (Calls Try.prog 15 #[v] w fun e w' => e = .returned (.bool (okS L)) ∧ ∃ m, w' = w.drewN m) := sok_any L v w hL hf
  obtain ⟨l1, l2, hz⟩ := okS_parts hok
  rw [hok] at C
  have HP : Hid (∀ k, k ≤ L.length → (-50000000 ≤ tot L k ∧ tot L k ≤ 50000000) ∧ (-25000000000 ≤ (L.length : Int) * tot L k ∧ (L.length : Int) * tot L k ≤ 25000000000) ∧ (-25000000000 ≤ (k : Int) * tot L L.length ∧ (k : Int) * tot L L.length ≤ 25000000000)) := dif_parts l2 hz
  have HM : Hid (∀ k, (-1 : Int) ≤ (bk (off L) k).2) := fun k => by
    by_cases e : k = 0
    · subst e; show (-1 : Int) ≤ -1; omega
    · have := bk_some (off L) (off_nn L) k (by omega); omega
  have S1 : Hid (∀ (b o cap k m : Nat), Lists.Reads w (.slice (some ⟨b, o, none⟩) L.length cap) L → k ≤ L.length → Calls Try.prog 17 #[.slice (some ⟨b, o, none⟩) k cap] (w.drewN m) fun e w' => e = .returned (.int .i64 (tot L k)) ∧ w' = w.drewN m) := fun b o cap k m h hk => by
    have := ssum_any (L.take k) _ (w.drewN m) (reads_take h rfl k hk) (by simp; omega) (by simp; omega) (bd_take hz k)
    rw [tot_take L k hk] at this
    exact this
  have S2 : Hid (∀ (b o cap m : Nat), Lists.Reads w (.slice (some ⟨b, o, none⟩) L.length cap) L → Calls Try.prog 17 #[.slice (some ⟨b, o, none⟩) L.length cap] (w.drewN m) fun e w' => e = .returned (.int .i64 (tot L L.length)) ∧ w' = w.drewN m) := fun b o cap m h => ssum_any L _ (w.drewN m) h hf l2 hz
  obtain ⟨b, o, hcell, hvv⟩ := reads_at hL
  obtain ⟨a, cap, rfl⟩ := hL.form
  have HR : Hid (Lists.Reads w (.slice a L.length cap) L) := hL
  have HK : Hid (0 < L.length → L.length ≤ cap ∧ cap ≤ maxLen) := fun hi => by
    rcases hL with ⟨rfl, _⟩ | ⟨b', o', c, h1, h2, h3, _⟩
    · simp at hi
    · simp at h1
      obtain ⟨_, rfl⟩ := h1
      exact ⟨h2, h3⟩
  have HC : Hid (∀ i, i < L.length → w.cell? ⟨b, o + i, none⟩ = some (.int .i64 (L.getD i 0))) := hcell
  have HB : Hid (0 < L.length → b < w.heap.size ∧ a = some ⟨b, o, none⟩) := fun hi => by
    obtain ⟨h1, c, h2⟩ := hvv hi
    simp at h2
    exact ⟨h1, h2.1⟩
  obtain ⟨n, hn⟩ : ∃ n, n = L.length := ⟨_, rfl⟩
  have HD : Hid (∀ k, dif L k = (n : Int) * tot L k - (k : Int) * tot L n) := (by intro k; rw [hn]; rfl)
  rw [← hn] at hf l1 l2 C HP HC HB HR HK S1 S2 ⊢
  have HN : Hid (n = L.length) := hn
  clear hL hcell hvv hn hz hok
  obtain ⟨hb, hx⟩ := HB.out (by omega)
  obtain ⟨k1, k2⟩ := HK.out (by omega)
  subst hx
  unfold maxLen at k2
  clear HK HB
  go_enter Try.func16, Try.ntmps16
  go_wp2_with fail
  refine C.out.mono ?_
  rintro e w1 ⟨rfl, m0, rfl⟩
  go_wp2_with fail
  go_loopw [5, 6, 7] (fun p m i wr => ∃ k : Nat, 1 ≤ k ∧ k ≤ n ∧ i = .int .i64 k ∧ p = .int .i64 (bk (off L) (k - 1)).1 ∧ m = .int .i64 (bk (off L) (k - 1)).2 ∧ (∃ m, wr = w.drewN m)) (fun _ _ i _ => n - (intOf i).toNat)
  case atStart => exact ⟨1, by omega, by omega, rfl, rfl, rfl, ⟨_, rfl⟩⟩
  case round =>
    obtain ⟨k, hk1, hk, rfl, rfl, rfl, ⟨m, rfl⟩⟩ := hrel
    by_cases hlt : k < n
    · have i2 : (k : Int) < (n : Int) := by omega
      have i3 : (0 : Int) ≤ (k : Int) := by omega
      have i4 : (k : Int) ≤ (cap : Int) := by omega
      have C1 := S1.out b o cap k m HR.out (by omega)
      have C2 := S2.out b o cap m HR.out
      have H1 : Hid (Calls Try.prog 17 #[.slice (some ⟨b, o, none⟩) k cap] (w.drewN m) fun e w' => e = .returned (.int .i64 (tot L k)) ∧ w' = w.drewN m) := C1
      have H2 : Hid (Calls Try.prog 17 #[.slice (some ⟨b, o, none⟩) n cap] (w.drewN m) fun e w' => e = .returned (.int .i64 (tot L n)) ∧ w' = w.drewN m) := C2
      clear C1 C2
      obtain ⟨p1, p2, p3⟩ := HP.out k (by omega)
      have J1 : IntKind.i64.wrap ((n : Int) * tot L k) = (n : Int) * tot L k := IntWalk.i64_in _ (by omega)
      have J2 : IntKind.i64.wrap ((k : Int) * tot L n) = (k : Int) * tot L n := IntWalk.i64_in _ (by omega)
      obtain ⟨D, hD⟩ : ∃ D, D = (n : Int) * tot L k - (k : Int) * tot L n := ⟨_, rfl⟩
      have dd : -50000000000 ≤ D ∧ D ≤ 50000000000 := by rw [hD]; omega
      have J3 : IntKind.i64.wrap ((n : Int) * tot L k - (k : Int) * tot L n) = D := by rw [hD]; exact IntWalk.i64_in _ (by omega)
      have E0 : Hid (off L k = (D.natAbs : Int)) := (by show _ = _; unfold off; rw [HD.out k, hD])
      have E1 : Hid (bk (off L) k = if (bk (off L) (k - 1)).2 < off L k then ((k : Int), off L k) else bk (off L) (k - 1)) := bk_step _ hk1
      have hm1 := HM.out (k - 1)
      clear p1 p2 p3 hD
      generalize hA : (bk (off L) (k - 1)).1 = A at *
      generalize hM : (bk (off L) (k - 1)).2 = M at *
      have HA : Hid ((bk (off L) (k - 1)).1 = A ∧ (bk (off L) (k - 1)).2 = M) := ⟨hA, hM⟩
      clear hA hM
      generalize tot L k = t at *
      generalize tot L n = u at *
      have rel : ∀ (x y : Value) (q : Int × Int), bk (off L) k = q → x = .int .i64 q.1 → y = .int .i64 q.2 → x = .int .i64 (bk (off L) (k + 1 - 1)).1 ∧ y = .int .i64 (bk (off L) (k + 1 - 1)).2 := fun x y q e hx hy => by
        rw [show k + 1 - 1 = k by omega, e]; exact ⟨hx, hy⟩
      have HRel : Hid (∀ (x y : Value) (q : Int × Int), bk (off L) k = q → x = .int .i64 q.1 → y = .int .i64 q.2 → x = .int .i64 (bk (off L) (k + 1 - 1)).1 ∧ y = .int .i64 (bk (off L) (k + 1 - 1)).2) := rel
      clear rel
      by_cases h0 : -D ≤ D
      · have E2 : Hid (off L k = D) := (by show _ = _; rw [E0.out]; omega)
        by_cases hm : M < D
        · have E3 : Hid (bk (off L) k = ((k : Int), D)) := (by show _ = _; rw [E1.out, E2.out, if_pos hm])
          go_wp2_with fail
          refine H1.out.mono ?_
          rintro e w2 ⟨rfl, rfl⟩
          go_wp2_with fail
          refine H2.out.mono ?_
          rintro e w2 ⟨rfl, rfl⟩
          go_wp2_with fail
          go_roundw
          case rel => exact ⟨k + 1, by omega, by omega, by go_num, (HRel.out _ _ _ E3.out rfl rfl).1, (HRel.out _ _ _ E3.out rfl rfl).2, ⟨_, rfl⟩⟩
          case measure => simp [intOf]; omega
        · have E3 : Hid (bk (off L) k = (A, M)) := (by show _ = _; rw [E1.out, E2.out, if_neg hm, ← HA.out.1, ← HA.out.2])
          go_wp2_with fail
          refine H1.out.mono ?_
          rintro e w2 ⟨rfl, rfl⟩
          go_wp2_with fail
          refine H2.out.mono ?_
          rintro e w2 ⟨rfl, rfl⟩
          go_wp2_with fail
          go_roundw
          case rel => exact ⟨k + 1, by omega, by omega, by go_num, (HRel.out _ _ _ E3.out rfl rfl).1, (HRel.out _ _ _ E3.out rfl rfl).2, ⟨_, rfl⟩⟩
          case measure => simp [intOf]; omega
      · have E2 : Hid (off L k = -D) := (by show _ = _; rw [E0.out]; omega)
        by_cases hm : M < -D
        · have E3 : Hid (bk (off L) k = ((k : Int), -D)) := (by show _ = _; rw [E1.out, E2.out, if_pos hm])
          go_wp2_with fail
          refine H1.out.mono ?_
          rintro e w2 ⟨rfl, rfl⟩
          go_wp2_with fail
          refine H2.out.mono ?_
          rintro e w2 ⟨rfl, rfl⟩
          go_wp2_with fail
          go_roundw
          case rel => exact ⟨k + 1, by omega, by omega, by go_num, (HRel.out _ _ _ E3.out rfl rfl).1, (HRel.out _ _ _ E3.out rfl rfl).2, ⟨_, rfl⟩⟩
          case measure => simp [intOf]; omega
        · have E3 : Hid (bk (off L) k = (A, M)) := (by show _ = _; rw [E1.out, E2.out, if_neg hm, ← HA.out.1, ← HA.out.2])
          go_wp2_with fail
          refine H1.out.mono ?_
          rintro e w2 ⟨rfl, rfl⟩
          go_wp2_with fail
          refine H2.out.mono ?_
          rintro e w2 ⟨rfl, rfl⟩
          go_wp2_with fail
          go_roundw
          case rel => exact ⟨k + 1, by omega, by omega, by go_num, (HRel.out _ _ _ E3.out rfl rfl).1, (HRel.out _ _ _ E3.out rfl rfl).2, ⟨_, rfl⟩⟩
          case measure => simp [intOf]; omega
    · have hkn : k = n := by omega
      subst hkn
      by_cases h0 : (0 : Int) ≤ (bk (off L) (k - 1)).2
      · have e0 : Hid (max (bk (off L) (k - 1)).2 0 = (bk (off L) (k - 1)).2) := (by show _ = _; omega)
        go_wp2_with fail
        all_goals go_ret2
        all_goals exact ⟨by rw [e0.out]; rfl, _, rfl⟩
      · have e0 : Hid (max (bk (off L) (k - 1)).2 0 = 0) := (by show _ = _; omega)
        go_wp2_with fail
        all_goals go_ret2
        all_goals exact ⟨by rw [e0.out]; rfl, _, rfl⟩

set_option maxHeartbeats 1000000 in
theorem i_yes (L : List Int) (v : Value) (w : World) (hL : Lists.Reads w v L) (hf : L.length < 9223372036854775808) (hok : okS L = true) :
    Calls Try.prog 9 #[v] w fun e w' => e = .returned (.tuple #[.int .i64 (bk (off L) (L.length - 1)).1, .int .i64 (max (bk (off L) (L.length - 1)).2 0)]) ∧ w' = w := by
  have C : Hid (Calls Try.prog 18 #[v] w fun e w' => e = .returned (.bool (okS L)) ∧ w' = w) := iok_any L v w hL hf
  obtain ⟨l1, l2, hz⟩ := okS_parts hok
  rw [hok] at C
  have HP : Hid (∀ k, k ≤ L.length → (-50000000 ≤ tot L k ∧ tot L k ≤ 50000000) ∧ (-25000000000 ≤ (L.length : Int) * tot L k ∧ (L.length : Int) * tot L k ≤ 25000000000) ∧ (-25000000000 ≤ (k : Int) * tot L L.length ∧ (k : Int) * tot L L.length ≤ 25000000000)) := dif_parts l2 hz
  have HM : Hid (∀ k, 0 < k → 1 ≤ (bk (off L) k).1 ∧ (bk (off L) k).1 ≤ k ∧ 0 ≤ (bk (off L) k).2) := bk_some (off L) (off_nn L)
  have HZ : Hid (∀ j, j < L.length → -100000 ≤ L.getD j 0 ∧ L.getD j 0 ≤ 100000) := hz
  have S2 : Hid (Calls Try.prog 21 #[v] w fun e w' => e = .returned (.int .i64 (tot L L.length)) ∧ w' = w) := isum_any L v w hL hf l2 hz
  obtain ⟨b, o, hcell, hvv⟩ := reads_at hL
  obtain ⟨a, cap, rfl⟩ := hL.form
  have HC : Hid (∀ i, i < L.length → w.cell? ⟨b, o + i, none⟩ = some (.int .i64 (L.getD i 0))) := hcell
  have HB : Hid (0 < L.length → b < w.heap.size ∧ a = some ⟨b, o, none⟩) := fun hi => by
    obtain ⟨h1, c, h2⟩ := hvv hi
    simp at h2
    exact ⟨h1, h2.1⟩
  obtain ⟨n, hn⟩ : ∃ n, n = L.length := ⟨_, rfl⟩
  have HD : Hid (∀ k, dif L k = (n : Int) * tot L k - (k : Int) * tot L n) := (by intro k; rw [hn]; rfl)
  rw [← hn] at hf l1 l2 C HP HC HB HZ S2 ⊢
  have HN : Hid (n = L.length) := hn
  clear hL hcell hvv hn hz hok
  obtain ⟨hb, hx⟩ := HB.out (by omega)
  subst hx
  clear HB
  go_enter Try.func9, Try.ntmps9
  go_wp2_with fail
  refine C.out.mono ?_
  rintro e w1 ⟨rfl, hw⟩
  subst hw
  go_wp2_with fail
  refine S2.out.mono ?_
  rintro e w2 ⟨rfl, hw⟩
  have hw' := hw.symm
  subst hw'
  go_wp2_with fail
  go_loop [6, 7, 8, 9] (fun p m s i => ∃ k : Nat, 1 ≤ k ∧ k ≤ n ∧ i = .int .i64 k ∧ s = .int .i64 (tot L (k - 1)) ∧ p = .int .i64 (bk (off L) (k - 1)).1 ∧ m = .int .i64 (max (bk (off L) (k - 1)).2 0)) (fun _ _ _ i => n - (intOf i).toNat)
  case atStart => exact ⟨1, by omega, by omega, rfl, rfl, rfl, rfl⟩
  case round =>
    obtain ⟨k, hk1, hk, rfl, rfl, rfl, rfl⟩ := hrel
    by_cases hlt : k < n
    · have i2 : (k : Int) < (n : Int) := by omega
      have q : w1.cell? ⟨b, o + (k - 1), none⟩ = some (.int .i64 (L.getD (k - 1) 0)) := HC.out (k - 1) (by omega)
      have j1 : (0 : Int) ≤ (k : Int) - 1 := by omega
      have j2 : (k : Int) - 1 < (n : Int) := by omega
      have j3 : ((k : Int) - 1).toNat = k - 1 := by omega
      obtain ⟨p1, p2, p3⟩ := HP.out k (by omega)
      have E4 : tot L k = tot L (k - 1) + L.getD (k - 1) 0 := by rw [← tot_succ, show k - 1 + 1 = k by omega]
      have A30 : Hid (Calls Try.prog 22 #[.int .i64 ((n : Int) * tot L k), .int .i64 ((k : Int) * tot L n)] w1 fun e w' => e = .returned (.int .i64 (off L k)) ∧ w' = w1) := (by
        have := apart_any ((n : Int) * tot L k) ((k : Int) * tot L n) w1 p2 p3
        unfold off
        rw [HD.out k]
        exact this)
      have J0 : IntKind.i64.wrap (tot L (k - 1) + L.getD (k - 1) 0) = tot L k := by rw [← E4]; exact IntWalk.i64_in _ (by omega)
      have J1 : IntKind.i64.wrap ((n : Int) * tot L k) = (n : Int) * tot L k := IntWalk.i64_in _ (by omega)
      have J2 : IntKind.i64.wrap ((k : Int) * tot L n) = (k : Int) * tot L n := IntWalk.i64_in _ (by omega)
      have E1 : Hid (bk (off L) k = if (bk (off L) (k - 1)).2 < off L k then ((k : Int), off L k) else bk (off L) (k - 1)) := bk_step _ hk1
      have hm0 : ((bk (off L) (k - 1)).1 = 0 ∧ (bk (off L) (k - 1)).2 = -1) ∨ (1 ≤ (bk (off L) (k - 1)).1 ∧ 0 ≤ (bk (off L) (k - 1)).2) := by
        by_cases e : k = 1
        · subst e; exact Or.inl ⟨rfl, rfl⟩
        · have := HM.out (k - 1) (by omega); exact Or.inr ⟨this.1, this.2.2⟩
      have ho := off_nn L k
      clear p1 p2 p3 E4
      generalize hA : (bk (off L) (k - 1)).1 = A at *
      generalize hM : (bk (off L) (k - 1)).2 = M at *
      have HA : Hid ((bk (off L) (k - 1)).1 = A ∧ (bk (off L) (k - 1)).2 = M) := ⟨hA, hM⟩
      clear hA hM
      have HTk : Hid (tot L k = tot L (k + 1 - 1)) := (by rw [show k + 1 - 1 = k by omega]; exact rfl)
      have HRel : Hid (∀ (x y : Value) (q : Int × Int), bk (off L) k = q → x = .int .i64 q.1 → y = .int .i64 (max q.2 0) → x = .int .i64 (bk (off L) (k + 1 - 1)).1 ∧ y = .int .i64 (max (bk (off L) (k + 1 - 1)).2 0)) := fun x y q e hx hy => by
        rw [show k + 1 - 1 = k by omega, e]; exact ⟨hx, hy⟩
      generalize tot L k = t at *
      generalize tot L n = u at *
      generalize tot L (k - 1) = t0 at *
      generalize L.getD (k - 1) 0 = z at *
      generalize off L k = F at *
      by_cases hm : M < F
      · have E3 : Hid (bk (off L) k = ((k : Int), F)) := (by show _ = _; rw [E1.out, if_pos hm])
        have E5 : Hid (F = max F 0) := (by show _ = _; omega)
        rcases hm0 with ⟨ha, hb⟩ | ⟨ha, hb⟩
        · subst ha
          have e0 : max M 0 = 0 := by omega
          rw [e0]
          clear e0
          go_wp2_with fail
          refine A30.out.mono ?_
          rintro e w3 ⟨rfl, hw⟩
          have hw' := hw.symm
          subst hw'
          go_wp2_with fail
          go_round
          case rel => exact ⟨k + 1, by omega, by omega, by go_num, by rw [← HTk.out], (HRel.out _ _ _ E3.out rfl rfl).1, (HRel.out _ _ _ E3.out rfl (by rw [← E5.out])).2⟩
          case measure => simp [intOf]; omega
        · have e0 : max M 0 = M := by omega
          have e1 : (A == 0) = false := by simp; omega
          rw [e0]
          clear e0
          go_wp2_with fail
          refine A30.out.mono ?_
          rintro e w3 ⟨rfl, hw⟩
          have hw' := hw.symm
          subst hw'
          go_wp2_with fail
          go_round
          case rel => exact ⟨k + 1, by omega, by omega, by go_num, by rw [← HTk.out], (HRel.out _ _ _ E3.out rfl rfl).1, (HRel.out _ _ _ E3.out rfl (by rw [← E5.out])).2⟩
          case measure => simp [intOf]; omega
      · have E3 : Hid (bk (off L) k = (A, M)) := (by show _ = _; rw [E1.out, if_neg hm, ← HA.out.1, ← HA.out.2])
        rcases hm0 with ⟨ha, hb⟩ | ⟨ha, hb⟩
        · omega
        · have e0 : max M 0 = M := by omega
          have e1 : (A == 0) = false := by simp; omega
          have E5 : Hid (M = max M 0) := (by show _ = _; omega)
          rw [e0]
          clear e0
          go_wp2_with fail
          refine A30.out.mono ?_
          rintro e w3 ⟨rfl, hw⟩
          have hw' := hw.symm
          subst hw'
          go_wp2_with fail
          go_round
          case rel => exact ⟨k + 1, by omega, by omega, by go_num, by rw [← HTk.out], (HRel.out _ _ _ E3.out rfl rfl).1, (HRel.out _ _ _ E3.out rfl (by rw [← E5.out])).2⟩
          case measure => simp [intOf]; omega
    · have hkn : k = n := by omega
      subst hkn
      go_wp2_with fail
      go_ret2
      exact ⟨rfl, rfl⟩

theorem s_any (L : List Int) (v : Value) (w : World) (hL : Lists.Reads w v L) (hf : L.length < 9223372036854775808) :
    Calls Try.prog 16 #[v] w fun e w' => e = .returned (.tuple #[.int .i64 (at_ L), .int .i64 (far L)]) ∧ ∃ m, w' = w.drewN m := by
  unfold at_ far
  cases ho : okS L
  · exact s_no L v w hL hf ho
  · exact s_yes L v w hL hf ho
theorem i_any (L : List Int) (v : Value) (w : World) (hL : Lists.Reads w v L) (hf : L.length < 9223372036854775808) :
    Calls Try.prog 9 #[v] w fun e w' => e = .returned (.tuple #[.int .i64 (at_ L), .int .i64 (far L)]) ∧ w' = w := by
  unfold at_ far
  cases ho : okS L
  · exact i_no L v w hL hf ho
  · exact i_yes L v w hL hf ho
end Go.Proofs.Ytcdajejapcbllaa.Bk
