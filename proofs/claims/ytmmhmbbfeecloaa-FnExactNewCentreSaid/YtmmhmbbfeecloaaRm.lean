/- l9RoutesOk: whether routes are right (the model). -/
import Derived.Test.YtmmhmbbfeecloaaRo
namespace Go.Proofs.Ytmmhmbbfeecloaa.Ro
open Go.ChangeShapes Go.WideShapes Go.ChangeAt Go.RowKit Rt Cx Al Let
theorem drew_cell {w : World} {p : Addr} {v : Value} (h : w.cell? p = some v) : w.drew.cell? p = some v := h
set_option maxHeartbeats 4000000 in
theorem sok_any (L : Ls) (v : Value) (w : World) (h : Reads w v L) (hn : L.length ≤ 2000000) (hf : Fit L) : Calls Try.prog 14 #[v] w fun e w' => Ans e L ∧ Below w.heap.size w w' := by
  obtain ⟨a, c, rfl⟩ := h.form
  obtain ⟨m, hm⟩ : ∃ m, m = L.length := ⟨_, rfl⟩
  have HM : Hid (m = L.length) := hm
  have HC : Hid (∀ i, i < m → ∃ b o, a = some ⟨b, o, none⟩ ∧ ∀ w', Below w.heap.size w w' → Cs w' b o L i) := fun i hi => (by
    rw [HM.out] at hi
    rcases h with ⟨rfl, _⟩ | ⟨b, o, c', e, e1, _, x, y⟩
    · simp at hi
    · simp at e; exact ⟨b, o, e.1, fun w' hb => (y i hi).below hb x⟩)
  rw [← hm] at hn ⊢
  clear h hm
  by_cases hl : m ≤ 60
  · have j0 : (m : Int) ≤ 60 := by omega
    go_enter Try.func14, Try.ntmps14
    go_wp2_with fail
    go_loopw [3] (fun i wr => ∃ k : Nat, k ≤ m ∧ i = .int .i64 k ∧ Hid (Below w.heap.size w wr) ∧ Hid (∀ j, j < k → r1 L j ∧ ∀ q, q < j → ¬ (c0 L q = c0 L j ∧ c1 L q = c1 L j))) (fun i _ => m - (intOf i).toNat)
    case atStart => exact ⟨0, Nat.zero_le _, rfl, Below.refl _ _, fun j hj => by omega⟩
    case round =>
      obtain ⟨k, hk, rfl, BB, NB⟩ := hrel
      by_cases hlt : k < m
      · have HC' := HC
        obtain ⟨b, o, rfl, qq⟩ := HC.out k hlt
        obtain ⟨q0, q1⟩ := qq wr BB.out
        clear qq HC'
        have i0 : (0 : Int) ≤ (k : Int) := by omega
        have i1 : (k : Int) < (m : Int) := by omega
        have HE : Hid (k < L.length) := (by show k < L.length; rw [← HM.out]; exact hlt)
        have HCC : Hid (∀ i, i < m → ∀ w', Below w.heap.size w w' → Cs w' b o L i) := fun i hi w' hb => (by
          obtain ⟨b2, o2, e, hh⟩ := HC.out i hi
          simp at e
          obtain ⟨rfl, rfl⟩ := e
          exact hh w' hb)
        clear HC
        have C1 : Hid (∀ w', Calls Try.prog 29 #[.string (c0 L k)] w' fun e w'' => e = .returned (.bool (lets (c0 L k))) ∧ w'' = w') := fun w' => sletters_any (c0 L k) w' (hf k HE.out)
        have C2 : Hid (∀ w', Calls Try.prog 30 #[.int .i64 (c1 L k), .int .i64 1, .int .i64 1000] w' fun e w'' => e = .returned (.bool (inn (c1 L k) 1 1000)) ∧ w'' = w') := fun w' => s_in _ _ _ w'
        have HF : Hid (¬ (c0 L k).size = 2 → ¬ Ok L) := fun h hk => h (hk.2 k HE.out).1.1
        have HF2 : Hid (lets (c0 L k) = false → ¬ Ok L) := fun h hk => (by
          have := (hk.2 k HE.out).1.2.1
          rw [this] at h; cases h)
        have HG : Hid (inn (c1 L k) 1 1000 = false → ¬ Ok L) := fun h hk => (by
          have := (hk.2 k HE.out).1.2.2
          rw [this] at h; cases h)
        have HX : Hid (∀ j, j < k → c0 L j = c0 L k → c1 L j = c1 L k → ¬ Ok L) := fun j hj h1 h2 hk => (hk.2 k HE.out).2 j hj ⟨h1, h2⟩
        have HN : Hid ((c0 L k).size = 2 → lets (c0 L k) = true → inn (c1 L k) 1 1000 = true → (∀ q, q < k → ¬ (c0 L q = c0 L k ∧ c1 L q = c1 L k)) → ∀ j, j < k + 1 → r1 L j ∧ ∀ q, q < j → ¬ (c0 L q = c0 L j ∧ c1 L q = c1 L j)) := fun g0 g1 g2 g3 j hj => (by
          by_cases e : j = k
          · subst e
            exact ⟨⟨g0, g1, g2⟩, g3⟩
          · exact NB.out j (by omega))
        have E0 : (wr.alloc (.cells #[.string (c0 L k), .int .i64 (c1 L k)] 46)).cell? ⟨wr.heap.size, 0, none⟩ = some (.string (c0 L k)) := by simp
        have E1 : (wr.alloc (.cells #[.string (c0 L k), .int .i64 (c1 L k)] 46)).cell? ⟨wr.heap.size, 1, none⟩ = some (.int .i64 (c1 L k)) := by simp
        have BA : Hid (Below w.heap.size w (wr.alloc (.cells #[.string (c0 L k), .int .i64 (c1 L k)] 46))) := BB.out.alloc BB.out.size _
        generalize hy0 : c0 L k = y0 at *
        generalize hy1 : c1 L k = y1 at *
        generalize hb1 : lets y0 = b1 at *
        generalize hb2 : inn y1 1 1000 = b2 at *
        clear NB
        by_cases hz : y0.size = 2
        · have z0 : (y0.size : Int) = 2 := by omega
          have z1 : ((y0.size : Int) != 2) = false := by rw [z0]; rfl
          cases b1
          · have NK : Hid (¬ Ok L) := HF2.out (by first | rfl | trivial)
            go_wp2_with (first | (go_at_call 29; refine (C1.out _).mono ?_; rintro e w1 ⟨rfl, hw1⟩; subst hw1) | (go_at_call 30; refine (C2.out _).mono ?_; rintro e w1 ⟨rfl, hw1⟩; subst hw1))
            go_ret
            exact ⟨ans_no NK.out, BA.out⟩
          · cases b2
            · have NK : Hid (¬ Ok L) := HG.out (by first | rfl | trivial)
              go_wp2_with (first | (go_at_call 29; refine (C1.out _).mono ?_; rintro e w1 ⟨rfl, hw1⟩; subst hw1) | (go_at_call 30; refine (C2.out _).mono ?_; rintro e w1 ⟨rfl, hw1⟩; subst hw1))
              go_ret
              exact ⟨ans_no NK.out, BA.out⟩
            · have HNN : Hid ((∀ q, q < k → ¬ (c0 L q = y0 ∧ c1 L q = y1)) → ∀ j, j < k + 1 → r1 L j ∧ ∀ q, q < j → ¬ (c0 L q = c0 L j ∧ c1 L q = c1 L j)) := fun h => HN.out hz (by first | rfl | trivial) (by first | rfl | trivial) h
              clear HN HF HF2 HG
              go_wp2_with (first | (go_at_call 29; refine (C1.out _).mono ?_; rintro e w1 ⟨rfl, hw1⟩; subst hw1) | (go_at_call 30; refine (C2.out _).mono ?_; rintro e w1 ⟨rfl, hw1⟩; subst hw1))
              go_loopw [5] (fun i wi => ∃ j : Nat, j ≤ k ∧ i = .int .i64 j ∧ Hid (Below w.heap.size w wi) ∧ (wi.cell? ⟨wr.heap.size, 0, none⟩ = some (.string y0) ∧ wi.cell? ⟨wr.heap.size, 1, none⟩ = some (.int .i64 y1)) ∧ Hid (∀ q, q < j → ¬ (c0 L q = y0 ∧ c1 L q = y1))) (fun i _ => k - (intOf i).toNat)
              case atStart => exact ⟨0, Nat.zero_le _, rfl, BA, ⟨E0, E1⟩, fun j hj => by omega⟩
              case round =>
                obtain ⟨j, hj, rfl, BI, ⟨p0, p1⟩, NI⟩ := hrel
                by_cases hlj : j < k
                · obtain ⟨x0', x1'⟩ := HCC.out j (by omega) _ BI.out
                  have l0 : (0 : Int) ≤ (j : Int) := by omega
                  have l1 : (j : Int) < (k : Int) := by omega
                  have l2 : (j : Int) < (m : Int) := by omega
                  have HXX : Hid (c0 L j = y0 → c1 L j = y1 → ¬ Ok L) := HX.out j hlj
                  generalize hx0 : c0 L j = x0 at *
                  generalize hx1 : c1 L j = x1 at *
                  by_cases e0 : x0.toList = y0.toList
                  · by_cases e1 : x1 = y1
                    · have NK : Hid (¬ Ok L) := HXX.out (tl_inj e0) e1
                      clear NI HNN HX
                      go_wp2_with fail
                      go_region
                      go_wp2_with fail
                      go_ret
                      exact ⟨ans_no NK.out, BI.out.drew⟩
                    · have NB' : Hid (∀ q, q < j + 1 → ¬ (c0 L q = y0 ∧ c1 L q = y1)) := fun q hq hh => by
                        by_cases e : q = j
                        · subst e; rw [hx1] at hh; exact e1 hh.2
                        · exact NI.out q (by omega) hh
                      have P0 := drew_cell p0
                      have P1 := drew_cell p1
                      clear NI
                      go_wp2_with fail
                      go_region
                      go_wp2_with fail
                      go_roundw
                      case rel => exact ⟨j + 1, by omega, by go_num, BI.out.drew, ⟨P0, P1⟩, NB'⟩
                      case measure => simp [intOf]; omega
                  · have NB' : Hid (∀ q, q < j + 1 → ¬ (c0 L q = y0 ∧ c1 L q = y1)) := fun q hq hh => by
                      by_cases e : q = j
                      · subst e; rw [hx0] at hh; exact e0 (by rw [hh.1])
                      · exact NI.out q (by omega) hh
                    have P0 := drew_cell p0
                    have P1 := drew_cell p1
                    clear NI
                    go_wp2_with fail
                    go_region
                    go_wp2_with fail
                    go_roundw
                    case rel => exact ⟨j + 1, by omega, by go_num, BI.out.drew, ⟨P0, P1⟩, NB'⟩
                    case measure => simp [intOf]; omega
                · have l1 : ¬ (j : Int) < (k : Int) := by omega
                  have NX : Hid (∀ j, j < k + 1 → r1 L j ∧ ∀ q, q < j → ¬ (c0 L q = c0 L j ∧ c1 L q = c1 L j)) := HNN.out (fun q hq => NI.out q (by omega))
                  clear HNN NI HX
                  go_wp2_with fail
                  go_roundw
                  case rel => exact ⟨k + 1, by omega, by go_num, BI, NX⟩
                  case measure => simp [intOf]; omega
        · have z0 : ¬ (y0.size : Int) = 2 := by omega
          have z1 : ((y0.size : Int) != 2) = true := by simp [z0]
          have NK : Hid (¬ Ok L) := HF.out hz
          go_wp2_with (first | (go_at_call 29; refine (C1.out _).mono ?_; rintro e w1 ⟨rfl, hw1⟩; subst hw1) | (go_at_call 30; refine (C2.out _).mono ?_; rintro e w1 ⟨rfl, hw1⟩; subst hw1))
          go_ret
          exact ⟨ans_no NK.out, BA.out⟩
      · have YK : Hid (Ok L) := ⟨by rw [← HM.out]; exact hl, fun i hi => NB.out i (by rw [← HM.out] at hi; omega)⟩
        have j1 : ¬ (k : Int) < (m : Int) := by omega
        go_wp2_with fail
        go_ret
        exact ⟨ans_yes YK.out, BB.out⟩
  · have j0 : 60 < (m : Int) := by omega
    have HN : Hid (¬ Ok L) := fun h => hl (by rw [HM.out]; exact h.1)
    go_enter Try.func14, Try.ntmps14
    go_wp2_with fail
    go_ret
    exact ⟨ans_no HN.out, Below.refl _ _⟩
end Go.Proofs.Ytmmhmbbfeecloaa.Ro
