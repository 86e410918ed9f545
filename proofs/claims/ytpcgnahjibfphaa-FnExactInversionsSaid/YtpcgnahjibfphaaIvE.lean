/- The runs of levels that grow warmer: the program. -/
import Derived.Test.YtpcgnahjibfphaaIvC
namespace Go.Proofs.Ytpcgnahjibfphaa.Flt
open Go.ChangeShapes Go.WideShapes Go.ChangeAt Go.RowKit
attribute [local go_sem] run_store_float

set_option maxHeartbeats 1000000 in
theorem iinv_yes (w : World) (v : Value) (L : Lv) (h : Reads w v L) (hk : lok L = true) :
    Calls Try.prog 20 #[v] w fun e w' => ∃ v', e = .returned v' ∧ w'.ownsRow w.heap.size 51 2 v' ((ist L L.length).2.length / 2) (ints (ist L L.length).2) ∧ Below w.heap.size w w' := by
  obtain ⟨h2, h4, hok⟩ := lok_size hk
  have H0 : Hid (Reads w v L) := h
  have HM : Hid (L.length ≤ 1048576) := (by show _ ≤ _; omega)
  rcases h with ⟨rfl, _⟩ | ⟨b, o, c, rfl, x1, x2, x3, x4⟩
  · simp at h2
  have K : Hid (b < w.heap.size ∧ ∀ i, i < L.length → w.cell? ⟨b, o + i * 2, none⟩ = some (.int .i64 (pOf L i)) ∧ w.cell? ⟨b, o + i * 2 + 1, none⟩ = some (.float .f64 (tOf L i))) := ⟨x3, x4⟩
  obtain ⟨i0, hi, hz0, hz1, hz2⟩ := info_parts Try.info51
  obtain ⟨n, hn⟩ : ∃ n, n = L.length := ⟨_, rfl⟩
  rw [← hn] at x1 h2 h4 H0 ⊢
  have HN : Hid (n = L.length) := hn
  unfold maxLen at x2
  clear x4 hn hok
  go_enter Try.func20, Try.ntmps20
  go_wp2_with fail
  refine (iok_any _ _ L H0.out HM.out).mono ?_
  rintro e w1 ⟨rfl, b1⟩
  rw [hk]
  have B1 : Hid (Below w.heap.size w w1) := b1
  have R1 : Hid (w1.ownsRow w.heap.size 51 2 (.slice none 0 0) ((ist L 0).2.length / 2) (ints (ist L 0).2)) := (by show w1.ownsRow _ _ _ _ _ _; rw [ist_zero]; exact ⟨rfl, .inl ⟨rfl, rfl⟩⟩)
  clear b1
  have j0 : IntKind.i64.wrap ((n : Int) - 1) = (n : Int) - 1 := IntWalk.i64_in _ (by omega)
  go_wp2_with fail
  go_loopw [3, 4, 15] (fun r q i wr => ∃ k : Nat, k ≤ n ∧ i = .int .i64 k ∧ q = .int .i64 ((ist L k).1 : Int) ∧ Hid (wr.ownsRow w.heap.size 51 2 r ((ist L k).2.length / 2) (ints (ist L k).2)) ∧ Hid (Below w.heap.size w wr)) (fun _ _ i _ => n - (intOf i).toNat)
  case atStart => exact ⟨0, Nat.zero_le _, rfl, by rw [ist_zero]; rfl, R1, B1⟩
  case round =>
    obtain ⟨k, hkn, rfl, rfl, R, BR⟩ := hrel
    obtain ⟨l1, l2, l3⟩ := ist_le L k
    have E1 : Hid (k + 1 < L.length → up L k = true → ist L (k + 1) = ist L k) := fun a b => ist_up a b
    have E2 : Hid ((¬ k + 1 < L.length ∨ up L k = false) → (ist L k).1 < k → ist L (k + 1) = (k + 1, (ist L k).2 ++ [((ist L k).1 : Int), (k : Int)])) := fun a b => ist_cut a b
    have E3 : Hid ((¬ k + 1 < L.length ∨ up L k = false) → ¬ (ist L k).1 < k → ist L (k + 1) = (k + 1, (ist L k).2)) := fun a b => ist_skip a b
    by_cases hlt : k < n
    · obtain ⟨is, his⟩ : ∃ is, ist L k = is := ⟨_, rfl⟩
      obtain ⟨f, C⟩ := is
      rw [his] at R l1 l2 l3 E1 E2 E3 ⊢
      dsimp only at R l1 l2 l3 E1 E2 E3 ⊢
      clear his
      obtain ⟨aa, cc, hv⟩ := row_form R.out
      subst hv
      have j1 : (0 : Int) ≤ (k : Int) := by omega
      have j2 : (k : Int) < (n : Int) := by omega
      have j3 : IntKind.i64.wrap (k : Int) = (k : Int) := IntWalk.i64_in _ (by omega)
      have j4 : IntKind.i64.wrap ((k : Int) + 1) = (k : Int) + 1 := IntWalk.i64_in _ (by omega)
      have j5 : IntKind.i64.wrap ((k : Int) + 1 - 1) = (k : Int) := (by rw [show (k : Int) + 1 - 1 = (k : Int) by omega]; exact j3)
      have j6 : (0 : Int) ≤ (k : Int) + 1 := by omega
      have j7 : IntKind.i64.wrap (f : Int) = (f : Int) := IntWalk.i64_in _ (by omega)
      have j8 : (k : Int) + 1 ≤ (n : Int) := by omega
      have j9 : IntKind.i64.wrap ((k : Int) + 1 + 1) = (k : Int) + 1 + 1 := IntWalk.i64_in _ (by omega)
      by_cases hin : k + 1 < n
      · have hin' : k + 1 < L.length := by rw [← HN.out]; exact hin
        have q1 : wr.cell? ⟨b, o + k * 2 + 1, none⟩ = some (.float .f64 (tOf L k)) := (BR.out.cell (p := ⟨b, o + k * 2 + 1, none⟩) K.out.1).trans (K.out.2 k (by omega)).2
        have q2 : wr.cell? ⟨b, o + (k + 1) * 2 + 1, none⟩ = some (.float .f64 (tOf L (k + 1))) := (BR.out.cell (p := ⟨b, o + (k + 1) * 2 + 1, none⟩) K.out.1).trans (K.out.2 (k + 1) hin').2
        have UP : Hid (up L k = (ord (tOf L (k + 1)) (tOf L k) == some .gt)) := rfl
        generalize tOf L k = t0 at *
        generalize tOf L (k + 1) = t1 at *
        have m1 : (k : Int) + 1 < (n : Int) := by omega
        have m2 : (k : Int) < (n : Int) - 1 := by omega
        have m4 : decide ((k : Int) + 1 < (n : Int)) = true := by simp; omega
        have m5 : decide ((k : Int) < (n : Int) - 1) = true := by simp; omega
        have HI : Hid (k + 1 < L.length) := hin'
        clear hin'
        cases c1 : (ord t1 t0 == some .gt)
        · have HU : Hid (up L k = false) := UP.out.trans c1
          by_cases c2 : f < k
          · have HE : Hid (ist L (k + 1) = (k + 1, C ++ [(f : Int), (k : Int)])) := E2.out (.inr HU.out) c2
            have m3 : (f : Int) < (k : Int) := by omega
            go_wp2_with fail
            go_quiet (fail)
            have RQ : Hid ((wr.drewN nq).ownsRow w.heap.size 51 2 (.slice aa (C.length / 2) cc) (C.length / 2) (ints C)) := R.out
            have BQ : Hid (Below w.heap.size w (wr.drewN nq)) := below_drewN BR.out nq
            generalize wr.drewN nq = wq at *
            go_wp2_with (at_builtin; refine wpList_append_own _ rfl _ _ 39 rfl w.heap.size 51 i0 (.agg #[.int .i64 0, .int .i64 0]) 2 16 Try.underlying39 hi hz0 hz1 hz2 rfl (by decide) _ _ _ rfl (RQ.out.alloc _) ⟨wq.heap.size, 0, none⟩ 1 1 [.int .i64 (f : Int), .int .i64 (k : Int)] rfl rfl ?c1 ?c2 ?c3 ?c4 ?c5 ?_)
            case c1 =>
              intro j u hj
              match j, hj with
              | 0, hj => simp at hj; subst hj; simp [Addr.add]
              | 1, hj => simp at hj; subst hj; simp [Addr.add]
            case c2 => intro u hu; simp at hu; rcases hu with rfl | rfl <;> rfl
            case c3 => unfold maxLen; omega
            case c4 => omega
            case c5 => have := BQ.out.size; simp; omega
            · intro v' w2 hown' hgrow _
              have R' : Hid (w2.ownsRow w.heap.size 51 2 v' ((ist L (k + 1)).2.length / 2) (ints (ist L (k + 1)).2)) := (by show w2.ownsRow _ _ _ _ _ _; rw [HE.out, half_two, ints_two]; exact hown')
              have B' : Hid (Below w.heap.size w w2) := (BQ.out.alloc BQ.out.size _).grown hgrow (by have := BQ.out.size; simp; omega) (fun b hb => (RQ.out.lt b hb).1)
              clear hown' hgrow
              go_wp2_with fail
              go_roundw
              case rel => exact ⟨k + 1, by omega, by go_num, by rw [HE.out]; go_num, R', B'⟩
              case measure => simp [intOf]; omega
          · have HE : Hid (ist L (k + 1) = (k + 1, C)) := E3.out (.inr HU.out) c2
            have m3 : ¬ (f : Int) < (k : Int) := by omega
            go_wp2_with fail
            go_quiet (fail)
            have RQ : Hid ((wr.drewN nq).ownsRow w.heap.size 51 2 (.slice aa (C.length / 2) cc) (C.length / 2) (ints C)) := R.out
            have BQ : Hid (Below w.heap.size w (wr.drewN nq)) := below_drewN BR.out nq
            generalize wr.drewN nq = wq at *
            go_wp2_with fail
            go_roundw
            case rel => exact ⟨k + 1, by omega, by go_num, by rw [HE.out]; go_num, by show Hid (wq.ownsRow _ _ _ _ _ _); rw [HE.out]; exact RQ, BQ⟩
            case measure => simp [intOf]; omega
        · have HE : Hid (ist L (k + 1) = (f, C)) := E1.out HI.out (UP.out.trans c1)
          go_wp2_with fail
          go_quiet (fail)
          have RQ : Hid ((wr.drewN nq).ownsRow w.heap.size 51 2 (.slice aa (C.length / 2) cc) (C.length / 2) (ints C)) := R.out
          have BQ : Hid (Below w.heap.size w (wr.drewN nq)) := below_drewN BR.out nq
          generalize wr.drewN nq = wq at *
          go_wp2_with fail
          go_roundw
          case rel => exact ⟨k + 1, by omega, by go_num, by rw [HE.out], by show Hid (wq.ownsRow _ _ _ _ _ _); rw [HE.out]; exact RQ, BQ⟩
          case measure => simp [intOf]; omega
      · have m1 : ¬ (k : Int) + 1 < (n : Int) := by omega
        have m2 : ¬ (k : Int) < (n : Int) - 1 := by omega
        have m4 : decide ((k : Int) + 1 < (n : Int)) = false := by simp; omega
        have m5 : decide ((k : Int) < (n : Int) - 1) = false := by simp; omega
        have HI : Hid (¬ k + 1 < L.length) := (by show ¬ _; rw [← HN.out]; exact hin)
        by_cases c2 : f < k
        · have HE : Hid (ist L (k + 1) = (k + 1, C ++ [(f : Int), (k : Int)])) := E2.out (.inl HI.out) c2
          have m3 : (f : Int) < (k : Int) := by omega
          go_wp2_with fail
          go_quiet (fail)
          have RQ : Hid ((wr.drewN nq).ownsRow w.heap.size 51 2 (.slice aa (C.length / 2) cc) (C.length / 2) (ints C)) := R.out
          have BQ : Hid (Below w.heap.size w (wr.drewN nq)) := below_drewN BR.out nq
          generalize wr.drewN nq = wq at *
          go_wp2_with (at_builtin; refine wpList_append_own _ rfl _ _ 39 rfl w.heap.size 51 i0 (.agg #[.int .i64 0, .int .i64 0]) 2 16 Try.underlying39 hi hz0 hz1 hz2 rfl (by decide) _ _ _ rfl (RQ.out.alloc _) ⟨wq.heap.size, 0, none⟩ 1 1 [.int .i64 (f : Int), .int .i64 (k : Int)] rfl rfl ?c1 ?c2 ?c3 ?c4 ?c5 ?_)
          case c1 =>
            intro j u hj
            match j, hj with
            | 0, hj => simp at hj; subst hj; simp [Addr.add]
            | 1, hj => simp at hj; subst hj; simp [Addr.add]
          case c2 => intro u hu; simp at hu; rcases hu with rfl | rfl <;> rfl
          case c3 => unfold maxLen; omega
          case c4 => omega
          case c5 => have := BQ.out.size; simp; omega
          · intro v' w2 hown' hgrow _
            have R' : Hid (w2.ownsRow w.heap.size 51 2 v' ((ist L (k + 1)).2.length / 2) (ints (ist L (k + 1)).2)) := (by show w2.ownsRow _ _ _ _ _ _; rw [HE.out, half_two, ints_two]; exact hown')
            have B' : Hid (Below w.heap.size w w2) := (BQ.out.alloc BQ.out.size _).grown hgrow (by have := BQ.out.size; simp; omega) (fun b hb => (RQ.out.lt b hb).1)
            clear hown' hgrow
            go_wp2_with fail
            go_roundw
            case rel => exact ⟨k + 1, by omega, by go_num, by rw [HE.out]; go_num, R', B'⟩
            case measure => simp [intOf]; omega
        · have HE : Hid (ist L (k + 1) = (k + 1, C)) := E3.out (.inl HI.out) c2
          have m3 : ¬ (f : Int) < (k : Int) := by omega
          go_wp2_with fail
          go_quiet (fail)
          have RQ : Hid ((wr.drewN nq).ownsRow w.heap.size 51 2 (.slice aa (C.length / 2) cc) (C.length / 2) (ints C)) := R.out
          have BQ : Hid (Below w.heap.size w (wr.drewN nq)) := below_drewN BR.out nq
          generalize wr.drewN nq = wq at *
          go_wp2_with fail
          go_roundw
          case rel => exact ⟨k + 1, by omega, by go_num, by rw [HE.out]; go_num, by show Hid (wq.ownsRow _ _ _ _ _ _); rw [HE.out]; exact RQ, BQ⟩
          case measure => simp [intOf]; omega
    · have e : k = n := by omega
      subst e
      have j1 : ¬ (k : Int) + 1 ≤ (k : Int) := by omega
      have j2 : ¬ (k : Int) < (k : Int) := by omega
      go_wp2_with fail
      go_ret
      exact ⟨_, rfl, R.out, BR.out⟩

end Go.Proofs.Ytpcgnahjibfphaa.Flt
