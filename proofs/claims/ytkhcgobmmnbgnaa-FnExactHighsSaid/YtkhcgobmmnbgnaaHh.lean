/- Highs: plainly, the model, the program. -/
import Derived.Test.YtkhcgobmmnbgnaaFlM
import Derived.Test.YtkhcgobmmnbgnaaRmH
import Derived.OwnWalk
import Derived.Laws.OwnMore
import Derived.Deep.QuietTactic
import Derived.BigQuiet
import Derived.Deep.Cut
namespace Go.Proofs.Ytkhcgobmmnbgnaa.Hh
open Go.ChangeShapes Go.WideShapes Go.ChangeAt Go.RowKit
open Go.Proofs.Ytkhcgobmmnbgnaa.Lists Go.Proofs.Ytkhcgobmmnbgnaa.Flt

def high (L : List Nat) (k : Nat) : Bool := (ord (L.getD k 0) (L.getD (k - 1) 0) == some .gt) && (ord (L.getD k 0) (L.getD (k + 1) 0) == some .gt || ord (L.getD k 0) (L.getD (k + 1) 0) == some .eq)
def hl (L : List Nat) : Nat → List Int
  | 0 => []
  | k + 1 => if 1 ≤ k ∧ high L k = true then hl L k ++ [(k : Int)] else hl L k
theorem hl_len (L : List Nat) (k : Nat) : (hl L k).length ≤ k := by
  induction k with
  | zero => simp [hl]
  | succ k ih =>
    unfold hl
    split
    · simp; omega
    · omega
theorem hl_one (L : List Nat) : hl L 1 = [] := by simp [hl]
def X0 (L : List Nat) : List Int := if L.length ≤ 4000 then hl L (max 1 (L.length - 1)) else []
theorem one_int (z : Int) : ∀ u ∈ [Value.int .i64 z], u.oneCell' = true := by intro u hu; simp at hu; subst hu; rfl
theorem row_none (w : World) (b : Nat) : w.ownsRow b 2 1 (.slice none 0 0) 0 [] := ⟨by simp, .inl ⟨rfl, rfl⟩⟩
theorem empty_row {W : World} (e : TypeId) : (W.alloc (.cells #[] e)).ownsRow W.heap.size e 1 (.slice (some ⟨W.heap.size, 0, none⟩) 0 0) 0 [] := by
  refine ⟨by simp, .inr ⟨W.heap.size, 0, #[], rfl, Nat.le_refl _, ?_, Nat.le_refl _, Nat.zero_le _, by simp, by simp⟩⟩
  exact heap_alloc_new W _
theorem below_drewN {B : Nat} {a w : World} (h : Below B a w) (n : Nat) : Below B a (w.drewN n) := h.trans ⟨rfl, rfl, rfl, Nat.le_refl _, fun _ _ => rfl⟩
theorem row_form {w : World} {base n : Nat} {v : Value} {xs : List Value} (h : w.ownsRow base 2 1 v n xs) : ∃ a c, v = .slice a n c := by
  rcases h.2 with ⟨h1, h2⟩ | ⟨g, cap, cur, h1, _⟩
  · exact ⟨none, 0, by rw [h1, h2]⟩
  · exact ⟨_, _, h1⟩

set_option maxRecDepth 20000 in
set_option maxHeartbeats 2000000 in
theorem shi_yes (L : List Nat) (v : Value) (w : World) (hL : Fls.Reads w v L) (h4 : L.length ≤ 4000) :
    Calls Try.prog 4 #[v] w fun e w' => ∃ u, e = .returned u ∧ w'.ownsRow w.heap.size 2 1 u (X0 L).length (ints (X0 L)) ∧ Below w.heap.size w w' := by
  obtain ⟨i0, hi, hz0, hz1, hz2⟩ := info_parts Lists.Try.info2
  have AT : Hid (∀ w' i, Below w.heap.size w w' → i < L.length → ∃ b o cap, v = .slice (some ⟨b, o, none⟩) L.length cap ∧ ∀ j, j < L.length → w'.cell? ⟨b, o + j, none⟩ = some (.float .f64 (L.getD j 0))) := fun w' i hb hi => by
    rcases hL with ⟨rfl, _⟩ | ⟨b, o, cap, h1, h2, h3, h4, h5⟩
    · simp at hi
    · exact ⟨b, o, cap, h1, fun j hj => (hb.cell (p := ⟨b, o + j, none⟩) h4).trans (h5 j hj)⟩
  have HX : Hid (X0 L = hl L (max 1 (L.length - 1))) := (by show _ = _; unfold X0; rw [if_pos h4])
  have HLL : Hid (∀ k, (hl L k).length ≤ k) := hl_len L
  have R0 : Hid ((w.alloc (.cells #[] 2)).ownsRow w.heap.size 2 1 (.slice (some ⟨w.heap.size, 0, none⟩) 0 0) (hl L 1).length (ints (hl L 1))) := (by rw [hl_one]; exact empty_row 2)
  have B0 : Hid (Below w.heap.size w (w.alloc (.cells #[] 2))) := (Below.refl _ _).alloc (Nat.le_refl _) _
  obtain ⟨a, cap, rfl⟩ := hL.form
  obtain ⟨n, hn⟩ : ∃ n, n = L.length := ⟨_, rfl⟩
  rw [← hn] at AT HX h4 ⊢
  have j4 : (n : Int) ≤ 4000 := by omega
  clear hL hn
  go_enter Try.func4, Try.ntmps4
  go_wp2_with fail
  go_loopw [3, 4] (fun u i wr => ∃ k : Nat, 1 ≤ k ∧ (k = 1 ∨ k + 1 ≤ n) ∧ i = .int .i64 k ∧ Hid (wr.ownsRow w.heap.size 2 1 u (hl L k).length (ints (hl L k))) ∧ Hid (Below w.heap.size w wr)) (fun _ i _ => n - (intOf i).toNat)
  case atStart => exact ⟨1, by omega, by omega, rfl, R0, B0⟩
  case round =>
    obtain ⟨k, hk1, hk, rfl, R, BB⟩ := hrel
    by_cases hlt : k + 1 < n
    · obtain ⟨b, o, cp, e, hc⟩ := AT.out wr k BB.out (by omega)
      simp at e
      obtain ⟨rfl, rfl⟩ := e
      have q0 := hc k (by omega)
      have q1 := hc (k - 1) (by omega)
      have q2 := hc (k + 1) (by omega)
      have kl := HLL.out k
      clear hc
      have i0' : (0 : Int) ≤ (k : Int) := by omega
      have i1 : (k : Int) < (n : Int) := by omega
      have i2 : (0 : Int) ≤ (k : Int) - 1 := by omega
      have ik : (1 : Int) ≤ (k : Int) := by omega
      have i3 : (k : Int) - 1 < (n : Int) := by omega
      have i4 : ((k : Int) - 1).toNat = k - 1 := by omega
      have i5 : (0 : Int) ≤ (k : Int) + 1 := by omega
      have i6 : (k : Int) + 1 < (n : Int) := by omega
      have i7 : ((k : Int) + 1).toNat = k + 1 := by omega
      have i8 : (k : Int) < (n : Int) - 1 := by omega
      have J1 : IntKind.i64.wrap ((k : Int) - 1) = (k : Int) - 1 := IntWalk.i64_in _ (by omega)
      have J2 : IntKind.i64.wrap ((k : Int) + 1) = (k : Int) + 1 := IntWalk.i64_in _ (by omega)
      have HG : Hid (high L k = ((ord (L.getD k 0) (L.getD (k - 1) 0) == some .gt) && (ord (L.getD k 0) (L.getD (k + 1) 0) == some .gt || ord (L.getD k 0) (L.getD (k + 1) 0) == some .eq))) := rfl
      have KA : Hid (high L k = true → hl L (k + 1) = hl L k ++ [(k : Int)]) := fun h => by show hl L (k + 1) = _; rw [hl, if_pos ⟨hk1, h⟩]
      have KB : Hid (high L k = false → hl L (k + 1) = hl L k) := fun h => by show hl L (k + 1) = _; rw [hl, if_neg (by rw [h]; simp)]
      obtain ⟨g1, hg1⟩ : ∃ g, (ord (L.getD k 0) (L.getD (k - 1) 0) == some .gt) = g := ⟨_, rfl⟩
      obtain ⟨g2, hg2⟩ : ∃ g, (ord (L.getD k 0) (L.getD (k + 1) 0) == some .gt || ord (L.getD k 0) (L.getD (k + 1) 0) == some .eq) = g := ⟨_, rfl⟩
      rw [hg1, hg2] at HG
      generalize L.getD k 0 = x at *
      generalize L.getD (k - 1) 0 = y at *
      generalize L.getD (k + 1) 0 = z at *
      obtain ⟨sa, sc, hv⟩ := row_form R.out
      subst hv
      have OL : Hid (∀ g, (Value.slice sa (hl L k).length sc).ownBlock = some g → w.heap.size ≤ g) := fun g hg => (R.out.lt g hg).1
      have zr : Hid (w.heap.size ≤ wr.heap.size) := BB.out.size
      cases g1
      · have HN2 : Hid (hl L (k + 1) = hl L k) := KB.out (by rw [HG.out]; rfl)
        generalize hl L k = C at *
        clear KA KB HG
        go_wp2_with fail
        go_quiet (fail)
        have R2 : Hid ((wr.drewN nq).ownsRow w.heap.size 2 1 (.slice sa C.length sc) (hl L (k + 1)).length (ints (hl L (k + 1)))) := (by rw [HN2.out]; exact R.out)
        have B2 : Hid (Below w.heap.size w (wr.drewN nq)) := below_drewN BB.out _
        go_wp2_with fail
        go_roundw
        case rel => exact ⟨k + 1, by omega, by omega, by go_num, R2, B2⟩
        case measure => simp [intOf]; omega
      · cases g2
        · have HN2 : Hid (hl L (k + 1) = hl L k) := KB.out (by rw [HG.out]; rfl)
          generalize hl L k = C at *
          clear KA KB HG
          go_wp2_with fail
          go_quiet (fail)
          have R2 : Hid ((wr.drewN nq).ownsRow w.heap.size 2 1 (.slice sa C.length sc) (hl L (k + 1)).length (ints (hl L (k + 1)))) := (by rw [HN2.out]; exact R.out)
          have B2 : Hid (Below w.heap.size w (wr.drewN nq)) := below_drewN BB.out _
          go_wp2_with fail
          go_roundw
          case rel => exact ⟨k + 1, by omega, by omega, by go_num, R2, B2⟩
          case measure => simp [intOf]; omega
        · have HN2 : Hid (hl L (k + 1) = hl L k ++ [(k : Int)]) := KA.out (by rw [HG.out]; rfl)
          generalize hl L k = C at *
          clear KA KB HG
          go_wp2_with fail
          go_quiet (fail)
          have R1 : Hid ((wr.drewN nq).ownsRow w.heap.size 2 1 (.slice sa C.length sc) C.length (ints C)) := R.out
          have B1 : Hid (Below w.heap.size w (wr.drewN nq)) := below_drewN BB.out _
          have zr1 : w.heap.size ≤ (wr.drewN nq).heap.size := zr.out
          generalize wr.drewN nq = w1 at *
          clear R BB
          go_wp2_with (at_builtin; refine wpList_append_own _ rfl _ _ 23 rfl w.heap.size 2 i0 (.int .i64 0) 1 8 Try.underlying23 hi hz0 hz1 hz2 rfl (by decide) _ _ _ rfl (R1.out.alloc _) ⟨w1.heap.size, 0, none⟩ 1 1 [.int .i64 (k : Int)] rfl rfl (cell_one_new w1 (.int .i64 (k : Int)) 2) (one_int _) (by unfold maxLen; omega) (by omega) (by simp; omega) ?_)
          intro v' w2 hown hgrow _
          have R2 : Hid (w2.ownsRow w.heap.size 2 1 v' (hl L (k + 1)).length (ints (hl L (k + 1)))) := (by
            show World.ownsRow _ _ _ _ _ _ _
            rw [HN2.out, List.length_append]
            simpa [ints] using hown)
          have B2 : Hid (Below w.heap.size w w2) := (B1.out.alloc zr1 _).grown hgrow (by simp; omega) (fun g hg => OL.out g hg)
          clear hown hgrow OL R1 B1
          go_wp2_with fail
          go_roundw
          case rel => exact ⟨k + 1, by omega, by omega, by go_num, R2, B2⟩
          case measure => simp [intOf]; omega
    · have hke : max 1 (n - 1) = k := by omega
      have j5 : ¬ (k : Int) + 1 < (n : Int) := by omega
      have j6 : ¬ (k : Int) < (n : Int) - 1 := by omega
      have J2 : IntKind.i64.wrap ((k : Int) + 1) = (k : Int) + 1 := IntWalk.i64_in _ (by omega)
      have RE : Hid (wr.ownsRow w.heap.size 2 1 u3 (X0 L).length (ints (X0 L))) := (by rw [HX.out, hke]; exact R.out)
      clear R hke HX
      go_wp2_with fail
      go_ret
      exact ⟨_, rfl, RE.out, BB.out⟩

set_option maxRecDepth 20000 in
set_option maxHeartbeats 2000000 in
theorem ihi_yes (L : List Nat) (v : Value) (w : World) (hL : Fls.Reads w v L) (h4 : L.length ≤ 4000) :
    Calls Try.prog 6 #[v] w fun e w' => ∃ u, e = .returned u ∧ w'.ownsRow w.heap.size 2 1 u (X0 L).length (ints (X0 L)) ∧ Below w.heap.size w w' := by
  obtain ⟨i0, hi, hz0, hz1, hz2⟩ := info_parts Lists.Try.info2
  have AT : Hid (∀ w' i, Below w.heap.size w w' → i < L.length → ∃ b o cap, v = .slice (some ⟨b, o, none⟩) L.length cap ∧ ∀ j, j < L.length → w'.cell? ⟨b, o + j, none⟩ = some (.float .f64 (L.getD j 0))) := fun w' i hb hi => by
    rcases hL with ⟨rfl, _⟩ | ⟨b, o, cap, h1, h2, h3, h4, h5⟩
    · simp at hi
    · exact ⟨b, o, cap, h1, fun j hj => (hb.cell (p := ⟨b, o + j, none⟩) h4).trans (h5 j hj)⟩
  have HX : Hid (X0 L = hl L (max 1 (L.length - 1))) := (by show _ = _; unfold X0; rw [if_pos h4])
  have HLL : Hid (∀ k, (hl L k).length ≤ k) := hl_len L
  have R0 : Hid (w.ownsRow w.heap.size 2 1 (.slice none 0 0) (hl L 1).length (ints (hl L 1))) := (by rw [hl_one]; exact row_none _ _)
  have B0 : Hid (Below w.heap.size w w) := Below.refl _ _
  obtain ⟨a, cap, rfl⟩ := hL.form
  obtain ⟨n, hn⟩ : ∃ n, n = L.length := ⟨_, rfl⟩
  rw [← hn] at AT HX h4 ⊢
  have j4 : (n : Int) ≤ 4000 := by omega
  clear hL hn
  go_enter Try.func6, Try.ntmps6
  go_wp2_with fail
  go_loopw [3, 4] (fun u i wr => ∃ k : Nat, 1 ≤ k ∧ (k = 1 ∨ k + 1 ≤ n) ∧ i = .int .i64 k ∧ Hid (wr.ownsRow w.heap.size 2 1 u (hl L k).length (ints (hl L k))) ∧ Hid (Below w.heap.size w wr)) (fun _ i _ => n - (intOf i).toNat)
  case atStart => exact ⟨1, by omega, by omega, rfl, R0, B0⟩
  case round =>
    obtain ⟨k, hk1, hk, rfl, R, BB⟩ := hrel
    by_cases hlt : k + 1 < n
    · obtain ⟨b, o, cp, e, hc⟩ := AT.out wr k BB.out (by omega)
      simp at e
      obtain ⟨rfl, rfl⟩ := e
      have q0 := hc k (by omega)
      have q1 := hc (k - 1) (by omega)
      have q2 := hc (k + 1) (by omega)
      have kl := HLL.out k
      clear hc
      have i0' : (0 : Int) ≤ (k : Int) := by omega
      have i1 : (k : Int) < (n : Int) := by omega
      have i2 : (0 : Int) ≤ (k : Int) - 1 := by omega
      have ik : (1 : Int) ≤ (k : Int) := by omega
      have i3 : (k : Int) - 1 < (n : Int) := by omega
      have i4 : ((k : Int) - 1).toNat = k - 1 := by omega
      have i5 : (0 : Int) ≤ (k : Int) + 1 := by omega
      have i6 : (k : Int) + 1 < (n : Int) := by omega
      have i7 : ((k : Int) + 1).toNat = k + 1 := by omega
      have i8 : (k : Int) < (n : Int) - 1 := by omega
      have J1 : IntKind.i64.wrap ((k : Int) - 1) = (k : Int) - 1 := IntWalk.i64_in _ (by omega)
      have J2 : IntKind.i64.wrap ((k : Int) + 1) = (k : Int) + 1 := IntWalk.i64_in _ (by omega)
      have HG : Hid (high L k = ((ord (L.getD k 0) (L.getD (k - 1) 0) == some .gt) && (ord (L.getD k 0) (L.getD (k + 1) 0) == some .gt || ord (L.getD k 0) (L.getD (k + 1) 0) == some .eq))) := rfl
      have KA : Hid (high L k = true → hl L (k + 1) = hl L k ++ [(k : Int)]) := fun h => by show hl L (k + 1) = _; rw [hl, if_pos ⟨hk1, h⟩]
      have KB : Hid (high L k = false → hl L (k + 1) = hl L k) := fun h => by show hl L (k + 1) = _; rw [hl, if_neg (by rw [h]; simp)]
      obtain ⟨g1, hg1⟩ : ∃ g, (ord (L.getD k 0) (L.getD (k - 1) 0) == some .gt) = g := ⟨_, rfl⟩
      obtain ⟨g2, hg2⟩ : ∃ g, (ord (L.getD k 0) (L.getD (k + 1) 0) == some .gt || ord (L.getD k 0) (L.getD (k + 1) 0) == some .eq) = g := ⟨_, rfl⟩
      rw [hg1, hg2] at HG
      generalize L.getD k 0 = x at *
      generalize L.getD (k - 1) 0 = y at *
      generalize L.getD (k + 1) 0 = z at *
      obtain ⟨sa, sc, hv⟩ := row_form R.out
      subst hv
      have OL : Hid (∀ g, (Value.slice sa (hl L k).length sc).ownBlock = some g → w.heap.size ≤ g) := fun g hg => (R.out.lt g hg).1
      have zr : Hid (w.heap.size ≤ wr.heap.size) := BB.out.size
      cases g1
      · have HN2 : Hid (hl L (k + 1) = hl L k) := KB.out (by rw [HG.out]; rfl)
        generalize hl L k = C at *
        clear KA KB HG
        go_wp2_with fail
        go_quiet (fail)
        have R2 : Hid ((wr.drewN nq).ownsRow w.heap.size 2 1 (.slice sa C.length sc) (hl L (k + 1)).length (ints (hl L (k + 1)))) := (by rw [HN2.out]; exact R.out)
        have B2 : Hid (Below w.heap.size w (wr.drewN nq)) := below_drewN BB.out _
        go_wp2_with fail
        go_roundw
        case rel => exact ⟨k + 1, by omega, by omega, by go_num, R2, B2⟩
        case measure => simp [intOf]; omega
      · cases g2
        · have HN2 : Hid (hl L (k + 1) = hl L k) := KB.out (by rw [HG.out]; rfl)
          generalize hl L k = C at *
          clear KA KB HG
          go_wp2_with fail
          go_quiet (fail)
          have R2 : Hid ((wr.drewN nq).ownsRow w.heap.size 2 1 (.slice sa C.length sc) (hl L (k + 1)).length (ints (hl L (k + 1)))) := (by rw [HN2.out]; exact R.out)
          have B2 : Hid (Below w.heap.size w (wr.drewN nq)) := below_drewN BB.out _
          go_wp2_with fail
          go_roundw
          case rel => exact ⟨k + 1, by omega, by omega, by go_num, R2, B2⟩
          case measure => simp [intOf]; omega
        · have HN2 : Hid (hl L (k + 1) = hl L k ++ [(k : Int)]) := KA.out (by rw [HG.out]; rfl)
          generalize hl L k = C at *
          clear KA KB HG
          go_wp2_with fail
          go_quiet (fail)
          have R1 : Hid ((wr.drewN nq).ownsRow w.heap.size 2 1 (.slice sa C.length sc) C.length (ints C)) := R.out
          have B1 : Hid (Below w.heap.size w (wr.drewN nq)) := below_drewN BB.out _
          have zr1 : w.heap.size ≤ (wr.drewN nq).heap.size := zr.out
          generalize wr.drewN nq = w1 at *
          clear R BB
          go_wp2_with (at_builtin; refine wpList_append_own _ rfl _ _ 23 rfl w.heap.size 2 i0 (.int .i64 0) 1 8 Try.underlying23 hi hz0 hz1 hz2 rfl (by decide) _ _ _ rfl (R1.out.alloc _) ⟨w1.heap.size, 0, none⟩ 1 1 [.int .i64 (k : Int)] rfl rfl (cell_one_new w1 (.int .i64 (k : Int)) 2) (one_int _) (by unfold maxLen; omega) (by omega) (by simp; omega) ?_)
          intro v' w2 hown hgrow _
          have R2 : Hid (w2.ownsRow w.heap.size 2 1 v' (hl L (k + 1)).length (ints (hl L (k + 1)))) := (by
            show World.ownsRow _ _ _ _ _ _ _
            rw [HN2.out, List.length_append]
            simpa [ints] using hown)
          have B2 : Hid (Below w.heap.size w w2) := (B1.out.alloc zr1 _).grown hgrow (by simp; omega) (fun g hg => OL.out g hg)
          clear hown hgrow OL R1 B1
          go_wp2_with fail
          go_roundw
          case rel => exact ⟨k + 1, by omega, by omega, by go_num, R2, B2⟩
          case measure => simp [intOf]; omega
    · have hke : max 1 (n - 1) = k := by omega
      have j5 : ¬ (k : Int) + 1 < (n : Int) := by omega
      have j6 : ¬ (k : Int) < (n : Int) - 1 := by omega
      have J2 : IntKind.i64.wrap ((k : Int) + 1) = (k : Int) + 1 := IntWalk.i64_in _ (by omega)
      have RE : Hid (wr.ownsRow w.heap.size 2 1 u3 (X0 L).length (ints (X0 L))) := (by rw [HX.out, hke]; exact R.out)
      clear R hke HX
      go_wp2_with fail
      go_ret
      exact ⟨_, rfl, RE.out, BB.out⟩

set_option maxHeartbeats 1000000 in
theorem shi_no (L : List Nat) (v : Value) (w : World) (hL : Fls.Reads w v L) (h4 : 4000 < L.length) (hf : L.length < 9223372036854775808) :
    Calls Try.prog 4 #[v] w fun e w' => ∃ u, e = .returned u ∧ w'.ownsRow w.heap.size 2 1 u 0 [] ∧ Below w.heap.size w w' := by
  have R0 : Hid ((w.alloc (.cells #[] 2)).ownsRow w.heap.size 2 1 (.slice (some ⟨w.heap.size, 0, none⟩) 0 0) 0 []) := empty_row 2
  have B0 : Hid (Below w.heap.size w (w.alloc (.cells #[] 2))) := (Below.refl _ _).alloc (Nat.le_refl _) _
  obtain ⟨a, cap, rfl⟩ := hL.form
  clear hL
  have j1 : ¬ (L.length : Int) ≤ 4000 := by omega
  have j2 : (2 : Int) < (L.length : Int) := by omega
  generalize L.length = n at *
  go_enter Try.func4, Try.ntmps4
  go_wp2_with fail
  go_loop [3, 4] (fun v i => v = .slice (some ⟨w.heap.size, 0, none⟩) 0 0 ∧ i = .int .i64 1) (fun _ _ => 0)
  case atStart => exact ⟨rfl, rfl⟩
  case round =>
    obtain ⟨rfl, rfl⟩ := hrel
    go_wp2_with fail
    go_ret
    exact ⟨_, rfl, R0.out, B0.out⟩
set_option maxHeartbeats 1000000 in
theorem ihi_no (L : List Nat) (v : Value) (w : World) (hL : Fls.Reads w v L) (h4 : 4000 < L.length) :
    Calls Try.prog 6 #[v] w fun e w' => ∃ u, e = .returned u ∧ w'.ownsRow w.heap.size 2 1 u 0 [] ∧ Below w.heap.size w w' := by
  obtain ⟨a, cap, rfl⟩ := hL.form
  clear hL
  have j1 : (4000 : Int) < (L.length : Int) := by omega
  generalize L.length = n at *
  go_enter Try.func6, Try.ntmps6
  go_wp2_with fail
  go_ret
  exact ⟨_, rfl, row_none _ _, Below.refl _ _⟩
theorem shi_any (L : List Nat) (v : Value) (w : World) (hL : Fls.Reads w v L) (hf : L.length < 9223372036854775808) :
    Calls Try.prog 4 #[v] w fun e w' => ∃ u, e = .returned u ∧ w'.ownsRow w.heap.size 2 1 u (X0 L).length (ints (X0 L)) ∧ Below w.heap.size w w' := by
  by_cases h4 : L.length ≤ 4000
  · exact shi_yes L v w hL h4
  · have e : X0 L = [] := by unfold X0; rw [if_neg h4]
    rw [e]
    exact shi_no L v w hL (by omega) hf
theorem ihi_any (L : List Nat) (v : Value) (w : World) (hL : Fls.Reads w v L) :
    Calls Try.prog 6 #[v] w fun e w' => ∃ u, e = .returned u ∧ w'.ownsRow w.heap.size 2 1 u (X0 L).length (ints (X0 L)) ∧ Below w.heap.size w w' := by
  by_cases h4 : L.length ≤ 4000
  · exact ihi_yes L v w hL h4
  · have e : X0 L = [] := by unfold X0; rw [if_neg h4]
    rw [e]
    exact ihi_no L v w hL (by omega)
theorem X0_len (L : List Nat) : (X0 L).length ≤ 4000 := by
  unfold X0
  split
  · have := hl_len L (max 1 (L.length - 1)); omega
  · simp
end Go.Proofs.Ytkhcgobmmnbgnaa.Hh
