/- Reliable: what the bins are, plainly; the model. -/
import Derived.Test.YtilkccilahglcaaTb
import Derived.Test.YtilkccilahglcaaBn
namespace Go.Proofs.Ytilkccilahglcaa.Rl
open Go.ChangeShapes Go.WideShapes Go.ChangeAt Go.RowKit
open Go.Proofs.Ytilkccilahglcaa.Al Go.Proofs.Ytilkccilahglcaa.Br

def bC (L : Pb.Ls) (k : Nat) (i : Nat) : Bool := decide (Pb.c0 L i / 10 = (k : Int))
def bH (L : Pb.Ls) (k : Nat) (i : Nat) : Bool := decide (Pb.c0 L i / 10 = (k : Int)) && Pb.c1 L i
def be (L : Pb.Ls) (k : Nat) : Int × Int := (cn (bC L k) L.length, cn (bH L k) L.length)
def relL (L : Pb.Ls) : Nat → Bn.Ls
  | 0 => []
  | k + 1 => relL L k ++ [be L k]
def rel (L : Pb.Ls) : Bn.Ls := if okT L then relL L 11 else []
theorem relL_len (L : Pb.Ls) (k : Nat) : (relL L k).length = k := by
  induction k with
  | zero => rfl
  | succ k ih => unfold relL; simp [ih]
theorem Try.infoE : (Try.prog.info? 36).map (fun i => (i.zero, i.size, i.bytes)) = some (some (.agg #[.int .i64 0, .int .i64 0]), 2, 16) := by kernel_rfl
theorem cell_two2 (w : World) (A : Obj) (v0 v1 : Value) (t : TypeId) : ∀ j u, [v0, v1][j]? = some u → ((w.alloc A).alloc (Obj.cells #[v0, v1] t)).cell? ((⟨w.heap.size + 1, 0, none⟩ : Addr).add j) = some u := by
  intro j u hj
  have := Bn.cell_news (w.alloc A) v0 v1 t j u hj
  simpa using this
theorem one_two (x y : Int) : ∀ u ∈ [Value.int .i64 x, Value.int .i64 y], u.oneCell' = true := by intro u hu; simp at hu; rcases hu with rfl | rfl <;> rfl

set_option maxHeartbeats 1000000 in
theorem srel_any (w : World) (v : Value) (L : Pb.Ls) (h : Pb.Reads w v L) : Calls Try.prog 7 #[v] w fun e w' => ∃ v', e = .returned v' ∧ Bn.Row w' w.heap.size v' (rel L) ∧ Below w.heap.size w w' := by
  have B0 : Hid (Below w.heap.size w (w.alloc (Obj.cells #[] 36))) := (Below.refl _ _).alloc (Nat.le_refl _) _
  have R0 : Hid (Bn.Row (w.alloc (Obj.cells #[] 36)) w.heap.size (.slice (some ⟨w.heap.size, 0, none⟩) 0 0) []) := ⟨[], World.ownsRow_lit w #[] 0 (Nat.le_refl _) (Nat.zero_le _) rfl, fun i hi => absurd hi (by simp)⟩
  have C : Hid (Calls Try.prog 14 #[v] (w.alloc (Obj.cells #[] 36)) fun e w' => e = .returned (.bool (okT L)) ∧ w' = w.alloc (Obj.cells #[] 36)) := sok_any L v _ (h.on B0.out)
  unfold rel
  cases ho : okT L
  · rw [ho] at C
    have e0 : (if false = true then relL L 11 else []) = [] := rfl
    rw [e0]
    clear ho e0
    obtain ⟨a, cap, rfl⟩ := h.form
    clear h
    generalize L.length = n at *
    go_enter Try.func7, Try.ntmps7
    go_wp2_with fail
    refine C.out.mono ?_
    rintro e w1 ⟨rfl, hw⟩
    subst hw
    go_wp2_with fail
    go_ret
    exact ⟨_, rfl, R0.out, B0.out⟩
  · have r := (okT_iff L).mp ho
    rw [ho] at C
    have e0 : (if true = true then relL L 11 else []) = relL L 11 := rfl
    rw [e0]
    obtain ⟨b, o, hcell, hvv⟩ := reads_at h
    obtain ⟨a, cap, rfl⟩ := h.form
    have HB : Hid (0 < L.length → b < w.heap.size) := fun hi => (hvv hi).1
    have HC : Hid (∀ i, i < L.length → ∀ w', Below w.heap.size w w' → Pb.Cs w' b o L i) := fun i hi w' hb => (hcell i hi).below hb (HB.out (by omega))
    have HA : Hid (0 < L.length → a = some ⟨b, o, none⟩) := fun hi => by
      obtain ⟨h1, c, h2⟩ := hvv hi
      simp at h2
      exact h2.1
    have RB : Hid (∀ j, j < L.length → 0 ≤ Pb.c0 L j ∧ Pb.c0 L j ≤ 100) := r.2
    have n2 := r.1
    obtain ⟨i0, hi, hz0, hz1, hz2⟩ := info_parts Try.infoE
    have HE : Hid (∀ k, be L k = (cn (bC L k) L.length, cn (bH L k) L.length)) := fun k => rfl
    obtain ⟨n, hn⟩ : ∃ n, n = L.length := ⟨_, rfl⟩
    rw [← hn] at C HC HA HB RB n2 HE ⊢
    clear h hcell hvv ho e0 r hn
    go_enter Try.func7, Try.ntmps7
    go_wp2_with fail
    refine C.out.mono ?_
    rintro e w1 ⟨rfl, hw⟩
    subst hw
    go_wp2_with fail
    go_loopw [3, 4] (fun v i wr => ∃ k : Nat, k ≤ 11 ∧ i = .int .i64 k ∧ Hid (Bn.Row wr w.heap.size v (relL L k)) ∧ Hid (Below w.heap.size w wr)) (fun _ i _ => 11 - (intOf i).toNat)
    case atStart => exact ⟨0, Nat.zero_le _, rfl, R0, B0⟩
    case round =>
      obtain ⟨k, hk, rfl, R, BB⟩ := hrel
      obtain ⟨sa, sc, hv⟩ := R.out.form
      subst hv
      by_cases hlt : k < 11
      · have KL : (relL L k).length = k := relL_len L k
        obtain ⟨xs, O, G⟩ := R.out
        have O' : Hid (wr.ownsRow w.heap.size 36 2 (.slice sa k sc) k xs) := (by rw [KL] at O; exact O)
        have G' : Hid (Bn.Good xs (relL L k) (relL L k).length) := G
        rw [KL]
        have zr := BB.out.size
        have p1 : (k : Int) ≤ 10 := by omega
        have KN : Hid (relL L (k + 1) = relL L k ++ [be L k]) := rfl
        have HK : Hid ((relL L k).length = k) := KL
        clear O G R KL
        go_wp2_with fail
        go_loopw [6] (fun i wi => ∃ j : Nat, j ≤ n ∧ i = .int .i64 j ∧ wi = wr.alloc (Obj.cells #[.int .i64 (cn (bC L k) j), .int .i64 (cn (bH L k) j)] 36)) (fun i _ => n - (intOf i).toNat)
        case atStart => exact ⟨0, Nat.zero_le _, rfl, rfl⟩
        case round =>
          obtain ⟨j, hj, rfl, rfl⟩ := hrel
          by_cases hlj : j < n
          · have hx := HA.out (by omega)
            subst hx
            obtain ⟨q0, q1⟩ := HC.out j hlj wr BB.out
            have hb1 : b < wr.heap.size := Nat.lt_of_lt_of_le (HB.out (by omega)) zr
            have hb2 : ¬ b = wr.heap.size := by omega
            have i1 : (0 : Int) ≤ (j : Int) := by omega
            have i2 : (j : Int) < (n : Int) := by omega
            have z1 := RB.out j hlj
            have y0 := cn_bd (bC L k) j
            have y1 := cn_bd (bH L k) j
            obtain ⟨q, hq⟩ : ∃ q, Pb.c0 L j / 10 = q := ⟨_, rfl⟩
            have eq1 : (Pb.c0 L j).tdiv 10 = q := by rw [Int.tdiv_eq_ediv_of_nonneg z1.1]; exact hq
            have bq : 0 ≤ q ∧ q ≤ 10 := by omega
            by_cases hz : q = (k : Int)
            · have e4 : (q == (k : Int)) = true := by simpa using hz
              have w0 : bC L k j = true := by unfold bC; rw [hq]; exact decide_eq_true hz
              have g0 : cn (bC L k) (j + 1) = cn (bC L k) j + 1 := cn_yes w0
              cases hh : Pb.c1 L j
              · have w1 : bH L k j = false := by unfold bH; rw [hh]; simp
                have g1 : cn (bH L k) (j + 1) = cn (bH L k) j := cn_no w1
                have GG : Hid (cn (bC L k) (j + 1) = cn (bC L k) j + 1 ∧ cn (bH L k) (j + 1) = cn (bH L k) j) := ⟨g0, g1⟩
                rw [hh] at q1
                clear hh w0 w1 g0 g1 hq hz
                generalize cn (bC L k) j = x0 at *
                generalize cn (bH L k) j = x1 at *
                generalize Pb.c0 L j = z at *
                go_wp2_with fail
                go_roundw
                case rel => exact ⟨j + 1, by omega, by go_num, by rw [GG.out.1, GG.out.2]⟩
                case measure => simp [intOf]; omega
              · have w1 : bH L k j = true := by unfold bH; rw [hh, hq, decide_eq_true hz]; rfl
                have g1 : cn (bH L k) (j + 1) = cn (bH L k) j + 1 := cn_yes w1
                have GG : Hid (cn (bC L k) (j + 1) = cn (bC L k) j + 1 ∧ cn (bH L k) (j + 1) = cn (bH L k) j + 1) := ⟨g0, g1⟩
                rw [hh] at q1
                clear hh w0 w1 g0 g1 hq hz
                generalize cn (bC L k) j = x0 at *
                generalize cn (bH L k) j = x1 at *
                generalize Pb.c0 L j = z at *
                go_wp2_with fail
                go_roundw
                case rel => exact ⟨j + 1, by omega, by go_num, by rw [GG.out.1, GG.out.2]⟩
                case measure => simp [intOf]; omega
            · have e4 : (q == (k : Int)) = false := by simpa using hz
              have w0 : bC L k j = false := by unfold bC; rw [hq]; exact decide_eq_false hz
              have w1 : bH L k j = false := by unfold bH; rw [hq, decide_eq_false hz]; rfl
              have g0 : cn (bC L k) (j + 1) = cn (bC L k) j := cn_no w0
              have g1 : cn (bH L k) (j + 1) = cn (bH L k) j := cn_no w1
              have GG : Hid (cn (bC L k) (j + 1) = cn (bC L k) j ∧ cn (bH L k) (j + 1) = cn (bH L k) j) := ⟨g0, g1⟩
              clear w0 w1 g0 g1 hq hz
              generalize cn (bC L k) j = x0 at *
              generalize cn (bH L k) j = x1 at *
              generalize Pb.c0 L j = z at *
              generalize Pb.c1 L j = z' at *
              go_wp2_with fail
              go_roundw
              case rel => exact ⟨j + 1, by omega, by go_num, by rw [GG.out.1, GG.out.2]⟩
              case measure => simp [intOf]; omega
          · have hjn : j = n := by omega
            subst hjn
            have KE : Hid (be L k = (cn (bC L k) j, cn (bH L k) j)) := HE.out k
            generalize cn (bC L k) j = x0 at *
            generalize cn (bH L k) j = x1 at *
            generalize relL L k = C at *
            go_wp2_with (at_builtin; refine wpList_append_own _ rfl _ _ 27 rfl w.heap.size 36 i0 (.agg #[.int .i64 0, .int .i64 0]) 2 16 Try.underlying27 hi hz0 hz1 hz2 rfl (by decide) _ _ _ rfl ((O'.out.alloc _).alloc _) ⟨wr.heap.size + 1, 0, none⟩ 1 1 [.int .i64 x0, .int .i64 x1] rfl rfl (cell_two2 wr _ _ _ 36) (one_two _ _) (by unfold maxLen; omega) (by omega) (by simp; omega) ?_)
            · intro v' w2 hown hgrow _
              have R2 : Hid (Bn.Row w2 w.heap.size v' (relL L (k + 1))) := (by
                show Bn.Row _ _ _ _
                rw [KN.out, KE.out]
                exact ⟨_, by simpa [HK.out] using hown, Bn.good_snoc G'.out (by rw [HK.out]; exact O'.out.1)⟩)
              have B2 : Hid (Below w.heap.size w w2) := ((BB.out.alloc BB.out.size _).alloc (by simp; omega) _).grown hgrow (by simp; omega) (fun b hb => (O'.out.lt b hb).1)
              clear hown hgrow O' G' BB
              go_wp2_with fail
              go_roundw
              case rel => exact ⟨k + 1, by omega, by go_num, R2, B2⟩
              case measure => simp [intOf]; omega
      · have hkn : k = 11 := by omega
        subst hkn
        go_wp2_with fail
        go_ret
        exact ⟨_, rfl, R.out, BB.out⟩
end Go.Proofs.Ytilkccilahglcaa.Rl
