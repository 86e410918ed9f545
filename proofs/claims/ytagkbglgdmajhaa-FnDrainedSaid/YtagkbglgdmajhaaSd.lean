/- The neighbours of a cell: the model. -/
import Derived.Test.YtagkbglgdmajhaaCa
import Derived.Test.YtagkbglgdmajhaaBo
import Derived.Deep.DeepCutAuto
namespace Go.Proofs.Ytagkbglgdmajhaa.Gd
open Go.ChangeShapes Go.WideShapes Go.ChangeAt Go.RowKit
open Go.Proofs.Ytagkbglgdmajhaa.Bx (inn inn_iff i_in)
open Go.Proofs.Ytagkbglgdmajhaa.Lists (ints)

def nbi (r c x : Int) : List Int := (nb r c (x / c) (x % c)).map (pl c)
def s1 (r c x : Int) : List Int := if x / c < r - 1 then [x + c] else []
def s2 (r c x : Int) : List Int := s1 r c x ++ if x % c < c - 1 then [x + 1] else []
def s3 (r c x : Int) : List Int := s2 r c x ++ if 0 < x / c then [x - c] else []
def s4 (r c x : Int) : List Int := s3 r c x ++ if 0 < x % c then [x - 1] else []
theorem nbi_is {r c x : Int} (hc : 1 ≤ c) (hx : 0 ≤ x ∧ x < r * c) : nbi r c x = s4 r c x := by
  have i1 : 0 ≤ x / c ∧ x / c < r := ⟨Int.ediv_nonneg hx.1 (by omega), (Int.ediv_lt_iff_lt_mul (by omega)).2 hx.2⟩
  have j1 : 0 ≤ x % c ∧ x % c < c := ⟨Int.emod_nonneg _ (by omega), Int.emod_lt_of_pos _ (by omega)⟩
  have e : x = x / c * c + x % c := by have := Int.mul_ediv_add_emod x c; rw [Int.mul_comm] at this; omega
  unfold nbi s4 s3 s2 s1
  generalize x / c = i at *
  generalize x % c = j at *
  unfold nb cands
  have t1 : there r c (i + 1) j = decide (i < r - 1) := by unfold there inn; rw [Bool.eq_iff_iff]; simp; omega
  have t2 : there r c i (j + 1) = decide (j < c - 1) := by unfold there inn; rw [Bool.eq_iff_iff]; simp; omega
  have t3 : there r c (i - 1) j = decide (0 < i) := by unfold there inn; rw [Bool.eq_iff_iff]; simp; omega
  have t4 : there r c i (j - 1) = decide (0 < j) := by unfold there inn; rw [Bool.eq_iff_iff]; simp; omega
  have p1 : pl c (i + 1, j) = x + c := by unfold pl; simp only; rw [Int.add_mul]; omega
  have p2 : pl c (i, j + 1) = x + 1 := by unfold pl; simp only; omega
  have p3 : pl c (i - 1, j) = x - c := by unfold pl; simp only; rw [Int.sub_mul]; omega
  have p4 : pl c (i, j - 1) = x - 1 := by unfold pl; simp only; omega
  simp only [List.filter_cons, List.filter_nil, t1, t2, t3, t4, decide_eq_true_eq]
  split <;> split <;> split <;> split <;> simp [p1, p2, p3, p4]
theorem one_int (z : Int) : ∀ u ∈ [Value.int .i64 z], u.oneCell' = true := by
  intro u hu
  simp at hu
  subst hu
  rfl
theorem row_form {w : World} {B k : Nat} {v : Value} {xs : List Value} (R : w.ownsRow B 2 1 v k xs) : ∃ sa sc, v = .slice sa k sc := by
  rcases R.2 with ⟨h, h'⟩ | ⟨g, c, cur, h, _⟩
  · exact ⟨none, 0, by rw [h, h']⟩
  · exact ⟨_, _, h⟩
theorem row_snoc {w : World} {B : Nat} {v : Value} {A : List Int} {y : Int} {n : Nat} (hn : n = A.length) (h : w.ownsRow B 2 1 v (n + 1) (ints A ++ [.int .i64 y])) : w.ownsRow B 2 1 v (A ++ [y]).length (ints (A ++ [y])) := by
  subst hn
  rw [List.length_append]
  simpa [ints] using h
/-- What the model has so far. -/
def St (w : World) (r c : Int) (u : Value) (wx : World) (v : Value) (A : List Int) : Prop := wx.ownsRow (w.heap.size + 1) 2 1 v A.length (ints A) ∧ Bo.Box wx w.heap.size (.int .i64 r) (.int .i64 c) u ∧ Below w.heap.size w wx ∧ w.heap.size + 1 ≤ wx.heap.size
theorem St.push {w wx w2 : World} {r c : Int} {u v v' : Value} {A : List Int} {y : Int} {o : Obj} (h : St w r c u wx v A) (hown : w2.ownsRow (w.heap.size + 1) 2 1 v' (A.length + 1) (ints A ++ [.int .i64 y])) (hgrow : (wx.alloc o).grownBy w2 v.ownBlock) : St w r c u w2 v' (A ++ [y]) := by
  obtain ⟨h1, h2, h3, h4⟩ := h
  have hs := hgrow.size
  simp at hs
  have ol : ∀ g, v.ownBlock = some g → w.heap.size + 1 ≤ g := fun g hg => (h1.lt g hg).1
  refine ⟨row_snoc rfl hown, ?_, (h3.alloc h3.size _).grown hgrow (by simp; omega) (fun g hg => by have := ol g hg; omega), by omega⟩
  have ha : Bo.Box (wx.alloc o) w.heap.size (.int .i64 r) (.int .i64 c) u := h2.on ((Below.refl wx.heap.size wx).alloc (Nat.le_refl _) _) (by omega)
  exact ha.apart hgrow (fun k hk => by have := ol k hk; omega)

set_option maxRecDepth 20000 in
set_option maxHeartbeats 2000000 in
theorem sides_any (r c x : Int) (hr : 1 ≤ r ∧ r ≤ 24) (hc : 1 ≤ c ∧ c ≤ 24) (hx : 0 ≤ x ∧ x < r * c) (u : Value) (w : World) :
    Calls Try.prog 21 #[Bx.sv r c u, .int .i64 x] w fun e w' => ∃ v', e = .returned v' ∧ w'.ownsRow w.heap.size 2 1 v' (nbi r c x).length (ints (nbi r c x)) ∧ Below w.heap.size w w' := by
  rw [nbi_is hc.1 hx]
  obtain ⟨r1, r2⟩ := hr
  obtain ⟨c1, c2⟩ := hc
  have rc : r * c ≤ 576 := (Bx.mul_le ⟨r1, r2⟩ ⟨c1, c2⟩).2
  have i1 : 0 ≤ x / c ∧ x / c < r := ⟨Int.ediv_nonneg hx.1 (by omega), (Int.ediv_lt_iff_lt_mul (by omega)).2 hx.2⟩
  have j1 : 0 ≤ x % c ∧ x % c < c := ⟨Int.emod_nonneg _ (by omega), Int.emod_lt_of_pos _ (by omega)⟩
  have E1 : Hid (s1 r c x = if x / c < r - 1 then [x + c] else []) := rfl
  have E2 : Hid (s2 r c x = s1 r c x ++ if x % c < c - 1 then [x + 1] else []) := rfl
  have E3 : Hid (s3 r c x = s2 r c x ++ if 0 < x / c then [x - c] else []) := rfl
  have E4 : Hid (s4 r c x = s3 r c x ++ if 0 < x % c then [x - 1] else []) := rfl
  have l1 : (s1 r c x).length ≤ 1 := by unfold s1; split <;> simp
  have l2 : (s2 r c x).length ≤ 2 := by unfold s2; split <;> simp <;> omega
  have l3 : (s3 r c x).length ≤ 3 := by unfold s3; split <;> simp <;> omega
  have td : x.tdiv c = x / c := Int.tdiv_eq_ediv_of_nonneg hx.1
  have tm : x.tmod c = x % c := Int.tmod_eq_emod_of_nonneg hx.1
  obtain ⟨x1, x2⟩ := hx
  have x3 : x < 576 := by omega
  generalize s4 r c x = A4 at *
  generalize s3 r c x = A3 at *
  generalize s2 r c x = A2 at *
  generalize s1 r c x = A1 at *
  generalize x / c = i at *
  generalize x % c = j at *
  obtain ⟨i1, i2⟩ := i1
  obtain ⟨j1, j2⟩ := j1
  obtain ⟨w0, hw0⟩ : ∃ w0, w0 = (w.alloc (Obj.cells #[.int .i64 r, .int .i64 c, u] 28)).alloc (Obj.cells #[] 2) := ⟨_, rfl⟩
  have HW0 : Hid (w0 = (w.alloc (Obj.cells #[.int .i64 r, .int .i64 c, u] 28)).alloc (Obj.cells #[] 2)) := hw0
  have T0 : Hid (St w r c u w0 (.slice (some ⟨w.heap.size + 1, 0, none⟩) 0 0) []) := (by
    show St _ _ _ _ _ _ _
    rw [hw0]
    have := World.ownsRow_lit (e := 2) (w.alloc (Obj.cells #[.int .i64 r, .int .i64 c, u] 28)) #[] 0 (size := 1) (base := w.heap.size + 1) (by simp) (Nat.zero_le _) rfl
    refine ⟨by simpa using this, ?_, ((Below.refl _ _).alloc (Nat.le_refl _) _).alloc (by simp) _, by simp⟩
    unfold Bo.Box
    simp [go_sem])
  obtain ⟨i0, hi, hz0, hz1, hz2⟩ := info_parts Lists.Try.info2
  have cz : ¬ c = 0 := by omega
  clear hw0 rc x2
  go_enter Try.func21, Try.ntmps21
  go_upto_if 21 with fail
  rw [← HW0.out]
  go_cut [5] (fun v wx => Hid (St w r c u wx v A1))
  case first =>
    obtain ⟨g0, g1, g2⟩ := id T0.out.2.1
    have zs := T0.out.2.2.2
    by_cases hcd : i < r - 1
    · have EE : Hid (A1 = [] ++ [x + c]) := (by show _ = _; rw [E1.out, if_pos hcd]; rfl)
      go_wp2_with (at_builtin; refine wpList_append_own _ rfl _ _ 22 rfl (w.heap.size + 1) 2 i0 (.int .i64 0) 1 8 Try.underlying22 hi hz0 hz1 hz2 rfl (by decide) _ _ _ rfl (T0.out.1.alloc _) ⟨w0.heap.size, 0, none⟩ 1 1 [.int .i64 (x + c)] rfl rfl (cell_one_new w0 (.int .i64 (x + c)) 2) (one_int _) (by unfold maxLen; simp) (by simp) (by simp; omega) ?_)
      intro v' w2 hown hgrow _
      have S2 : Hid (St w r c u w2 v' A1) := (by show St _ _ _ _ _ _ _; rw [EE.out]; exact St.push T0.out (by simpa using hown) hgrow)
      clear hown hgrow
      go_wp2_with fail
      go_meet
      exact S2
    · have S2 : Hid (St w r c u w0 _ A1) := (by show St _ _ _ _ _ _ _; rw [E1.out, if_neg hcd]; exact T0.out)
      go_wp2_with fail
      go_meet
      exact S2
  case rest =>
    clear T0 HW0
    obtain ⟨wd, hwd⟩ : ∃ q : World, q = wc := ⟨_, rfl⟩
    subst hwd
    obtain ⟨sa, sc, hv⟩ := row_form hcut.out.1
    subst hv
    have T1 : Hid (St w r c u wd (.slice sa A1.length sc) A1) := hcut
    clear hcut
    obtain ⟨g0, g1, g2⟩ := id T1.out.2.1
    go_upto_if 33 with fail
    clear g0 g1 g2
    go_cut [5] (fun v wx => Hid (St w r c u wx v A2))
    case first =>
      obtain ⟨g0, g1, g2⟩ := id T1.out.2.1
      have zs := T1.out.2.2.2
      by_cases hcd : j < c - 1
      · have EE : Hid (A2 = A1 ++ [x + 1]) := (by show _ = _; rw [E2.out, if_pos hcd])
        go_wp2_with (at_builtin; refine wpList_append_own _ rfl _ _ 22 rfl (w.heap.size + 1) 2 i0 (.int .i64 0) 1 8 Try.underlying22 hi hz0 hz1 hz2 rfl (by decide) _ _ _ rfl (T1.out.1.alloc _) ⟨wd.heap.size, 0, none⟩ 1 1 [.int .i64 (x + 1)] rfl rfl (cell_one_new wd (.int .i64 (x + 1)) 2) (one_int _) (by unfold maxLen; omega) (by omega) (by simp; omega) ?_)
        intro v' w2 hown hgrow _
        have S2 : Hid (St w r c u w2 v' A2) := (by show St _ _ _ _ _ _ _; rw [EE.out]; exact St.push T1.out (by simpa using hown) hgrow)
        clear hown hgrow
        go_wp2_with fail
        go_meet
        exact S2
      · have S2 : Hid (St w r c u wd _ A2) := (by show St _ _ _ _ _ _ _; rw [E2.out, if_neg hcd, List.append_nil]; exact T1.out)
        go_wp2_with fail
        go_meet
        exact S2
    case rest =>
      clear T1
      obtain ⟨we, hwe⟩ : ∃ q : World, q = wc := ⟨_, rfl⟩
      subst hwe
      obtain ⟨sa, sc, hv⟩ := row_form hcut.out.1
      subst hv
      have T2 : Hid (St w r c u we (.slice sa A2.length sc) A2) := hcut
      clear hcut
      go_upto_if 40 with fail
      go_cut [5] (fun v wx => Hid (St w r c u wx v A3))
      case first =>
        obtain ⟨g0, g1, g2⟩ := id T2.out.2.1
        have zs := T2.out.2.2.2
        by_cases hcd : 0 < i
        · have EE : Hid (A3 = A2 ++ [x - c]) := (by show _ = _; rw [E3.out, if_pos hcd])
          go_wp2_with (at_builtin; refine wpList_append_own _ rfl _ _ 22 rfl (w.heap.size + 1) 2 i0 (.int .i64 0) 1 8 Try.underlying22 hi hz0 hz1 hz2 rfl (by decide) _ _ _ rfl (T2.out.1.alloc _) ⟨we.heap.size, 0, none⟩ 1 1 [.int .i64 (x - c)] rfl rfl (cell_one_new we (.int .i64 (x - c)) 2) (one_int _) (by unfold maxLen; omega) (by omega) (by simp; omega) ?_)
          intro v' w2 hown hgrow _
          have S2 : Hid (St w r c u w2 v' A3) := (by show St _ _ _ _ _ _ _; rw [EE.out]; exact St.push T2.out (by simpa using hown) hgrow)
          clear hown hgrow
          go_wp2_with fail
          go_meet
          exact S2
        · have S2 : Hid (St w r c u we _ A3) := (by show St _ _ _ _ _ _ _; rw [E3.out, if_neg hcd, List.append_nil]; exact T2.out)
          go_wp2_with fail
          go_meet
          exact S2
      case rest =>
        clear T2
        obtain ⟨wf, hwf⟩ : ∃ q : World, q = wc := ⟨_, rfl⟩
        subst hwf
        obtain ⟨sa, sc, hv⟩ := row_form hcut.out.1
        subst hv
        have T3 : Hid (St w r c u wf (.slice sa A3.length sc) A3) := hcut
        clear hcut
        go_upto_if 49 with fail
        go_cut [5] (fun v wx => Hid (St w r c u wx v A4))
        case first =>
          obtain ⟨g0, g1, g2⟩ := id T3.out.2.1
          have zs := T3.out.2.2.2
          by_cases hcd : 0 < j
          · have EE : Hid (A4 = A3 ++ [x - 1]) := (by show _ = _; rw [E4.out, if_pos hcd])
            go_wp2_with (at_builtin; refine wpList_append_own _ rfl _ _ 22 rfl (w.heap.size + 1) 2 i0 (.int .i64 0) 1 8 Try.underlying22 hi hz0 hz1 hz2 rfl (by decide) _ _ _ rfl (T3.out.1.alloc _) ⟨wf.heap.size, 0, none⟩ 1 1 [.int .i64 (x - 1)] rfl rfl (cell_one_new wf (.int .i64 (x - 1)) 2) (one_int _) (by unfold maxLen; omega) (by omega) (by simp; omega) ?_)
            intro v' w2 hown hgrow _
            have S2 : Hid (St w r c u w2 v' A4) := (by show St _ _ _ _ _ _ _; rw [EE.out]; exact St.push T3.out (by simpa using hown) hgrow)
            clear hown hgrow
            go_wp2_with fail
            go_meet
            exact S2
          · have S2 : Hid (St w r c u wf _ A4) := (by show St _ _ _ _ _ _ _; rw [E4.out, if_neg hcd, List.append_nil]; exact T3.out)
            go_wp2_with fail
            go_meet
            exact S2
        case rest =>
          have R4 : Hid (wc.ownsRow w.heap.size 2 1 u5 A4.length (ints A4)) := Bo.own_down hcut.out.1 (Nat.le_succ _)
          have B4 : Hid (Below w.heap.size w wc) := hcut.out.2.2.1
          go_wp2_with fail
          go_ret
          exact ⟨_, rfl, R4.out, B4.out⟩
end Go.Proofs.Ytagkbglgdmajhaa.Gd
