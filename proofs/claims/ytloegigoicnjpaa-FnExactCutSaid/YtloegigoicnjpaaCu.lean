/- Cut: lengths, plain; the model and the program. -/
import Derived.Test.YtloegigoicnjpaaCuL
import Derived.Maps.AppendAt
import Derived.Laws.MakeOwn
namespace Go.Proofs.Ytloegigoicnjpaa.Cu
open Go.ChangeShapes Go.WideShapes Go.ChangeAt Go.RowKit
open Go.Proofs.Ytloegigoicnjpaa.Pr
attribute [local go_sem] Pr.run_store_float

def lg (n : Nat) : Bool := decide (0 < n) && decide (36 % n = 0)
theorem lg_le {n : Nat} (h : lg n = true) : 1 ≤ n ∧ n ≤ 36 := by
  unfold lg at h
  rw [Bool.and_eq_true, decide_eq_true_eq, decide_eq_true_eq] at h
  refine ⟨h.1, ?_⟩
  by_cases e : n ≤ 36
  · exact e
  · rw [Nat.mod_eq_of_lt (by omega)] at h
    omega
theorem lg_small : ∀ k : Fin 37, lg k.val = true → k.val = 1 ∨ k.val = 2 ∨ k.val = 3 ∨ k.val = 4 ∨ k.val = 6 ∨ k.val = 9 ∨ k.val = 12 ∨ k.val = 18 ∨ k.val = 36 := by decide
theorem lg_no {n : Nat} (h : ¬ (n = 1 ∨ n = 2 ∨ n = 3 ∨ n = 4 ∨ n = 6 ∨ n = 9 ∨ n = 12 ∨ n = 18 ∨ n = 36)) : lg n = false := by
  cases e : lg n
  · rfl
  · have := lg_le e
    exact absurd (lg_small ⟨n, by omega⟩ e) h
def mn (n k : Nat) : Int := if (k : Int) ≤ (n : Int) - k then k else (n : Int) - k
def ce (L : Ls) (n : Nat) (keep : Int) (k : Nat) : Nat × Nat := if mn n k ≤ keep then (c0 L k, c1 L k) else (0, 0)
def cutL (L : Ls) (n : Nat) (keep : Int) : Nat → Ls
  | 0 => []
  | k + 1 => cutL L n keep k ++ [ce L n keep k]
theorem cutL_len (L : Ls) (n : Nat) (keep : Int) (k : Nat) : (cutL L n keep k).length = k := by
  induction k with
  | zero => rfl
  | succ k ih => unfold cutL; simp [ih]
theorem cutL_at (L : Ls) (n : Nat) (keep : Int) : ∀ (k i : Nat), i < k → (cutL L n keep k).getD i (0, 0) = ce L n keep i := by
  intro k
  induction k with
  | zero => intro i hi; omega
  | succ k ih =>
    intro i hi
    unfold cutL
    rw [List.getD_eq_getElem?_getD]
    by_cases e : i = k
    · subst e
      rw [List.getElem?_append_right (by rw [cutL_len]; exact Nat.le_refl _), cutL_len, Nat.sub_self]
      rfl
    · rw [List.getElem?_append_left (by rw [cutL_len]; omega), ← List.getD_eq_getElem?_getD]
      exact ih i (by omega)
def cutA (L : Ls) (keep : Int) : Ls := if lg L.length then cutL L L.length keep L.length else []
theorem cutA_len (L : Ls) (keep : Int) : (cutA L keep).length ≤ 1000 := by
  unfold cutA
  cases h : lg L.length
  · simp
  · have := lg_le h
    simp [cutL_len]
    omega

set_option maxHeartbeats 1000000 in
theorem div_any (n : Nat) (hn : n < 9223372036854775808) (w : World) : Calls Try.prog 23 #[.int .i64 (n : Int), .int .i64 36] w fun e w' => e = .returned (.bool (lg n)) ∧ w' = w := by
  by_cases h0 : n = 0
  · subst h0
    go_enter Try.func23, Try.ntmps23
    go_wp2_with fail
    go_ret
    exact ⟨rfl, rfl⟩
  · have i1 : (0 : Int) < (n : Int) := by omega
    have i2 : ¬ (n : Int) = 0 := by omega
    have i3 : ((n : Int) == 0) = false := by simp; omega
    have q : ((36 % n : Nat) : Int) = (36 : Int) % (n : Int) := by simp
    have e : Hid (lg n = decide ((36 : Int) % (n : Int) = 0)) := (by
      show _ = _
      unfold lg
      rw [decide_eq_true (by omega : 0 < n), Bool.true_and]
      rw [← q]
      by_cases z : 36 % n = 0
      · rw [z]; rfl
      · rw [decide_eq_false z, decide_eq_false (by omega)])
    have m1 : 0 ≤ (36 : Int) % (n : Int) := Int.emod_nonneg _ i2
    have m2 : (36 : Int) % (n : Int) ≤ 36 := by
      have := Nat.mod_le 36 n
      omega
    have i5 : IntKind.i64.wrap ((36 : Int) % (n : Int)) = (36 : Int) % (n : Int) := IntWalk.i64_in _ (by omega)
    clear q
    go_enter Try.func23, Try.ntmps23
    go_wp2_with fail
    go_ret
    exact ⟨by rw [e.out]; rfl, rfl⟩
set_option maxHeartbeats 1000000 in
theorem long_any (n : Nat) (hn : n < 9223372036854775808) (w : World) : Calls Try.prog 21 #[.int .i64 (n : Int)] w fun e w' => e = .returned (.bool (lg n)) ∧ w' = w := by
  by_cases h1 : n = 1
  · subst h1
    go_enter Try.func21, Try.ntmps21
    go_wp2_with fail
    go_ret
    exact ⟨rfl, rfl⟩
  by_cases h2 : n = 2
  · subst h2
    go_enter Try.func21, Try.ntmps21
    go_wp2_with fail
    go_ret
    exact ⟨rfl, rfl⟩
  by_cases h3 : n = 3
  · subst h3
    go_enter Try.func21, Try.ntmps21
    go_wp2_with fail
    go_ret
    exact ⟨rfl, rfl⟩
  by_cases h4 : n = 4
  · subst h4
    go_enter Try.func21, Try.ntmps21
    go_wp2_with fail
    go_ret
    exact ⟨rfl, rfl⟩
  by_cases h6 : n = 6
  · subst h6
    go_enter Try.func21, Try.ntmps21
    go_wp2_with fail
    go_ret
    exact ⟨rfl, rfl⟩
  by_cases h9 : n = 9
  · subst h9
    go_enter Try.func21, Try.ntmps21
    go_wp2_with fail
    go_ret
    exact ⟨rfl, rfl⟩
  by_cases h12 : n = 12
  · subst h12
    go_enter Try.func21, Try.ntmps21
    go_wp2_with fail
    go_ret
    exact ⟨rfl, rfl⟩
  by_cases h18 : n = 18
  · subst h18
    go_enter Try.func21, Try.ntmps21
    go_wp2_with fail
    go_ret
    exact ⟨rfl, rfl⟩
  by_cases h36 : n = 36
  · subst h36
    go_enter Try.func21, Try.ntmps21
    go_wp2_with fail
    go_ret
    exact ⟨rfl, rfl⟩
  have hl : lg n = false := lg_no (by omega)
  have e1 : ((n : Int) == 1) = false := by simp; omega
  have e2 : ((n : Int) == 2) = false := by simp; omega
  have e3 : ((n : Int) == 3) = false := by simp; omega
  have e4 : ((n : Int) == 4) = false := by simp; omega
  have e6 : ((n : Int) == 6) = false := by simp; omega
  have e9 : ((n : Int) == 9) = false := by simp; omega
  have e12 : ((n : Int) == 12) = false := by simp; omega
  have e18 : ((n : Int) == 18) = false := by simp; omega
  have e36 : ((n : Int) == 36) = false := by simp; omega
  rw [hl]
  go_enter Try.func21, Try.ntmps21
  go_wp2_with fail
  go_ret
  exact ⟨rfl, rfl⟩

theorem cell_two2 (w : World) (A : Obj) (v0 v1 : Value) (t : TypeId) : ∀ j u, [v0, v1][j]? = some u → ((w.alloc A).alloc (Obj.cells #[v0, v1] t)).cell? ((⟨w.heap.size + 1, 0, none⟩ : Addr).add j) = some u := by
  intro j u hj
  have := cell_news (w.alloc A) v0 v1 t j u hj
  simpa using this
theorem one_two (x y : Nat) : ∀ u ∈ [Value.float .f64 x, Value.float .f64 y], u.oneCell' = true := by intro u hu; simp at hu; rcases hu with rfl | rfl <;> rfl
theorem cells_at {w : World} {v : Value} {L : Ls} (h : Reads w v L) : ∃ b o, (∀ i, i < L.length → Cs w b o L i) ∧ (0 < L.length → b < w.heap.size ∧ ∃ cap, v = .slice (some ⟨b, o, none⟩) L.length cap) := by
  rcases h with ⟨rfl, _⟩ | ⟨b, o, cap, h1, h2, h3, h4, h5⟩
  · exact ⟨0, 0, fun i hi => by simp at hi, fun hi => by simp at hi⟩
  · exact ⟨b, o, h5, fun _ => ⟨h4, cap, h1⟩⟩

set_option maxHeartbeats 1000000 in
theorem scut_any (L : Ls) (keep : Int) (w : World) (v : Value) (h : Reads w v L) :
    Calls Try.prog 8 #[v, .int .i64 keep] w fun e w' => ∃ v', e = .returned v' ∧ Row w' w.heap.size v' (cutA L keep) ∧ Below w.heap.size w w' := by
  have HF := h.fits
  have R0 : Hid (Row (w.alloc (Obj.cells #[] 37)) w.heap.size (.slice (some ⟨w.heap.size, 0, none⟩) 0 0) []) := ⟨[], World.ownsRow_lit w #[] 0 (Nat.le_refl _) (Nat.zero_le _) rfl, fun i hi => absurd hi (by simp)⟩
  have B0 : Hid (Below w.heap.size w (w.alloc (Obj.cells #[] 37))) := (Below.refl _ _).alloc (Nat.le_refl _) _
  have C1 : Hid (∀ w, Calls Try.prog 21 #[.int .i64 (L.length : Int)] w fun e w' => e = .returned (.bool (lg L.length)) ∧ w' = w) := fun w => long_any _ HF w
  unfold cutA
  cases hlg : lg L.length
  · rw [hlg] at C1
    obtain ⟨a, cap, rfl⟩ := h.form
    clear h hlg
    simp only [Bool.false_eq_true, if_false]
    generalize L.length = n at *
    go_enter Try.func8, Try.ntmps8
    go_wp2_with fail
    refine (C1.out _).mono ?_
    rintro e w1 ⟨rfl, hw⟩
    have hw' := hw.symm
    subst hw'
    go_wp2_with fail
    go_ret
    exact ⟨_, rfl, R0.out, B0.out⟩
  · rw [hlg] at C1
    have hle := lg_le hlg
    rw [if_pos rfl]
    obtain ⟨b, o, hc, hv⟩ := cells_at h
    obtain ⟨bl, cap, rfl⟩ := hv (by omega)
    have HC : Hid (∀ i, i < L.length → Cs w b o L i) := hc
    obtain ⟨i0, hi, hz0, hz1, hz2⟩ := info_parts Pr.Try.infoE
    obtain ⟨n, hn⟩ : ∃ n, n = L.length := ⟨_, rfl⟩
    have HN : Hid (n = L.length) := hn
    rw [← hn] at hle C1 HF ⊢
    have HBL : Hid (b < w.heap.size) := bl
    clear h hc hv hn hlg bl
    go_enter Try.func8, Try.ntmps8
    go_wp2_with fail
    refine (C1.out _).mono ?_
    rintro e w1 ⟨rfl, hw⟩
    have hw' := hw.symm
    subst hw'
    go_wp2_with fail
    go_loopw [5, 7] (fun v i wr => ∃ k : Nat, k ≤ n ∧ i = .int .i64 k ∧ Hid (Row wr w.heap.size v (cutL L n keep k)) ∧ Hid (Below w.heap.size w wr)) (fun _ i _ => n - (intOf i).toNat)
    case atStart => exact ⟨0, Nat.zero_le _, rfl, R0, B0⟩
    case round =>
      obtain ⟨k, hk, rfl, R, BB⟩ := hrel
      obtain ⟨sa, sc, hv⟩ := R.out.form
      subst hv
      by_cases hlt : k < n
      · obtain ⟨q0, q1⟩ : Cs wr b o L k := (HC.out k (by have := HN.out; omega)).below BB.out HBL.out
        have KL : (cutL L n keep k).length = k := cutL_len L n keep k
        obtain ⟨xs, O, G⟩ := R.out
        have O' : Hid (wr.ownsRow w.heap.size 37 2 (.slice sa k sc) k xs) := (by rw [KL] at O; exact O)
        have G' : Hid (Pr.Good xs (cutL L n keep k) (cutL L n keep k).length) := G
        rw [KL]
        have zr := BB.out.size
        have hbr : b < wr.heap.size := Nat.lt_of_lt_of_le HBL.out zr
        have p1 : (0 : Int) ≤ (k : Int) := by omega
        have p2 : (k : Int) < (n : Int) := by omega
        have wn : IntKind.i64.wrap ((n : Int) - k) = (n : Int) - k := IntWalk.i64_in _ (by omega)
        have KN : Hid (cutL L n keep (k + 1) = cutL L n keep k ++ [ce L n keep k]) := rfl
        have ML : Hid (mn n k = if (k : Int) ≤ (n : Int) - k then (k : Int) else (n : Int) - k) := rfl
        have CE : Hid (ce L n keep k = if mn n k ≤ keep then (c0 L k, c1 L k) else (0, 0)) := rfl
        have HK : Hid ((cutL L n keep k).length = k) := KL
        clear O G R KL
        generalize hx0 : c0 L k = x0 at *
        generalize hx1 : c1 L k = x1 at *
        generalize mn n k = mm at *
        generalize cutL L n keep k = C at *
        clear hx0 hx1
        by_cases hmin : (k : Int) ≤ (n : Int) - k
        · have hm : mm = (k : Int) := by rw [ML.out]; split <;> omega
          rw [hm] at CE
          clear ML hm
          by_cases hkeep : (k : Int) ≤ keep
          · have KE : Hid (ce L n keep k = (x0, x1)) := (by show _ = _; rw [CE.out, if_pos hkeep])
            clear CE
            go_wp2_with (at_builtin; refine wpList_append_own _ rfl _ _ 24 rfl w.heap.size 37 i0 (.agg #[.float .f64 0, .float .f64 0]) 2 16 Try.underlying24 hi hz0 hz1 hz2 rfl (by decide) _ _ _ rfl ((O'.out.alloc _).alloc _) ⟨wr.heap.size + 1, 0, none⟩ 1 1 [.float .f64 (x0), .float .f64 (x1)] rfl rfl (cell_two2 wr _ _ _ 37) (one_two _ _) (by unfold maxLen; omega) (by omega) (by simp; omega) ?_)
            · intro v' w2 hown hgrow _
              have R2 : Hid (Row w2 w.heap.size v' (cutL L n keep (k + 1))) := (by
                show Row _ _ _ _
                rw [KN.out, KE.out]
                exact ⟨_, by simpa [HK.out] using hown, good_snoc G'.out (by rw [HK.out]; exact O'.out.1)⟩)
              have B2 : Hid (Below w.heap.size w w2) := ((BB.out.alloc BB.out.size _).alloc (by simp; omega) _).grown hgrow (by simp; omega) (fun b hb => (O'.out.lt b hb).1)
              clear hown hgrow O' G' BB
              go_wp2_with fail
              go_roundw
              case rel => exact ⟨k + 1, by omega, by go_num, R2, B2⟩
              case measure => simp [intOf]; omega
          · have KE : Hid (ce L n keep k = (0, 0)) := (by show _ = _; rw [CE.out, if_neg hkeep])
            clear CE
            go_wp2_with (at_builtin; refine wpList_append_own _ rfl _ _ 24 rfl w.heap.size 37 i0 (.agg #[.float .f64 0, .float .f64 0]) 2 16 Try.underlying24 hi hz0 hz1 hz2 rfl (by decide) _ _ _ rfl ((O'.out.alloc _).alloc _) ⟨wr.heap.size + 1, 0, none⟩ 1 1 [.float .f64 (0), .float .f64 (0)] rfl rfl (cell_two2 wr _ _ _ 37) (one_two _ _) (by unfold maxLen; omega) (by omega) (by simp; omega) ?_)
            · intro v' w2 hown hgrow _
              have R2 : Hid (Row w2 w.heap.size v' (cutL L n keep (k + 1))) := (by
                show Row _ _ _ _
                rw [KN.out, KE.out]
                exact ⟨_, by simpa [HK.out] using hown, good_snoc G'.out (by rw [HK.out]; exact O'.out.1)⟩)
              have B2 : Hid (Below w.heap.size w w2) := ((BB.out.alloc BB.out.size _).alloc (by simp; omega) _).grown hgrow (by simp; omega) (fun b hb => (O'.out.lt b hb).1)
              clear hown hgrow O' G' BB
              go_wp2_with fail
              go_roundw
              case rel => exact ⟨k + 1, by omega, by go_num, R2, B2⟩
              case measure => simp [intOf]; omega
        · have hm : mm = (n : Int) - k := by rw [ML.out]; split <;> omega
          rw [hm] at CE
          clear ML hm
          by_cases hkeep : (n : Int) - k ≤ keep
          · have KE : Hid (ce L n keep k = (x0, x1)) := (by show _ = _; rw [CE.out, if_pos hkeep])
            clear CE
            go_wp2_with (at_builtin; refine wpList_append_own _ rfl _ _ 24 rfl w.heap.size 37 i0 (.agg #[.float .f64 0, .float .f64 0]) 2 16 Try.underlying24 hi hz0 hz1 hz2 rfl (by decide) _ _ _ rfl ((O'.out.alloc _).alloc _) ⟨wr.heap.size + 1, 0, none⟩ 1 1 [.float .f64 (x0), .float .f64 (x1)] rfl rfl (cell_two2 wr _ _ _ 37) (one_two _ _) (by unfold maxLen; omega) (by omega) (by simp; omega) ?_)
            · intro v' w2 hown hgrow _
              have R2 : Hid (Row w2 w.heap.size v' (cutL L n keep (k + 1))) := (by
                show Row _ _ _ _
                rw [KN.out, KE.out]
                exact ⟨_, by simpa [HK.out] using hown, good_snoc G'.out (by rw [HK.out]; exact O'.out.1)⟩)
              have B2 : Hid (Below w.heap.size w w2) := ((BB.out.alloc BB.out.size _).alloc (by simp; omega) _).grown hgrow (by simp; omega) (fun b hb => (O'.out.lt b hb).1)
              clear hown hgrow O' G' BB
              go_wp2_with fail
              go_roundw
              case rel => exact ⟨k + 1, by omega, by go_num, R2, B2⟩
              case measure => simp [intOf]; omega
          · have KE : Hid (ce L n keep k = (0, 0)) := (by show _ = _; rw [CE.out, if_neg hkeep])
            clear CE
            go_wp2_with (at_builtin; refine wpList_append_own _ rfl _ _ 24 rfl w.heap.size 37 i0 (.agg #[.float .f64 0, .float .f64 0]) 2 16 Try.underlying24 hi hz0 hz1 hz2 rfl (by decide) _ _ _ rfl ((O'.out.alloc _).alloc _) ⟨wr.heap.size + 1, 0, none⟩ 1 1 [.float .f64 (0), .float .f64 (0)] rfl rfl (cell_two2 wr _ _ _ 37) (one_two _ _) (by unfold maxLen; omega) (by omega) (by simp; omega) ?_)
            · intro v' w2 hown hgrow _
              have R2 : Hid (Row w2 w.heap.size v' (cutL L n keep (k + 1))) := (by
                show Row _ _ _ _
                rw [KN.out, KE.out]
                exact ⟨_, by simpa [HK.out] using hown, good_snoc G'.out (by rw [HK.out]; exact O'.out.1)⟩)
              have B2 : Hid (Below w.heap.size w w2) := ((BB.out.alloc BB.out.size _).alloc (by simp; omega) _).grown hgrow (by simp; omega) (fun b hb => (O'.out.lt b hb).1)
              clear hown hgrow O' G' BB
              go_wp2_with fail
              go_roundw
              case rel => exact ⟨k + 1, by omega, by go_num, R2, B2⟩
              case measure => simp [intOf]; omega
      · have hkn : k = n := by omega
        subst hkn
        go_wp2_with fail
        go_ret
        exact ⟨_, rfl, R.out, BB.out⟩
end Go.Proofs.Ytloegigoicnjpaa.Cu
