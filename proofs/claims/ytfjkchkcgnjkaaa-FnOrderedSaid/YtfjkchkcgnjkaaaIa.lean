/- A row of numbers sorted in place: insertion; ranges swapped. -/
import Derived.Test.YtfjkchkcgnjkaaaCp
import Derived.Test.YtfjkchkcgnjkaaaAtF
import Derived.OwnWalk
import Derived.WalkSmall
import Derived.Laws.OwnMore
import Derived.Deep.QuietTactic
import Derived.BigQuiet
namespace Go.Proofs.Ytfjkchkcgnjkaaa.Srt
open Go.ChangeShapes Go.WideShapes Go.ChangeAt Go.RowKit
open Go.Proofs.Ytfjkchkcgnjkaaa.Flt Go.Proofs.Ytfjkchkcgnjkaaa.St Go.Proofs.Ytfjkchkcgnjkaaa.Fls

attribute [local go_sem] Fls.run_store_flt
/- a row of n numbers in block g, and nothing else has changed since w0 -/
structure RW (B g n c : Nat) (w0 w : World) (L : List Nat) : Prop where
  own : w.ownsRow B 31 1 (.slice (some ⟨g, 0, none⟩) n c) n (flts L)
  bel : Below B w0 w
  len : L.length = n
  lt : ∀ z ∈ L, z < 18446744073709551616
theorem RW.get {B g n c : Nat} {w0 w : World} {L : List Nat} (h : RW B g n c w0 w L) (x : Nat) (hx : x < n) : w.cell? ⟨g, x, none⟩ = some (.float .f64 (L.getD x 0)) := by
  obtain ⟨h1, h2, rfl, h4⟩ := h
  exact row_cell h1 x hx
theorem RW.fz {B g n c : Nat} {w0 w : World} {L : List Nat} (h : RW B g n c w0 w L) (x : Nat) : w.frozen? ⟨g, x, none⟩ = false := h.own.frozenAt x
theorem RW.bd {B g n c : Nat} {w0 w : World} {L : List Nat} (h : RW B g n c w0 w L) (x : Nat) : L.getD x 0 < 18446744073709551616 := by
  by_cases e : x < L.length
  · rw [List.getD_eq_getElem?_getD, List.getElem?_eq_getElem e]; exact h.lt _ (List.getElem_mem e)
  · rw [List.getD_eq_getElem?_getD, List.getElem?_eq_none (by omega)]; decide
theorem RW.drew {B g n c : Nat} {w0 w : World} {L : List Nat} (h : RW B g n c w0 w L) (m : Nat) : RW B g n c w0 (w.drewN m) L := ⟨h.own, h.bel.trans ⟨rfl, rfl, rfl, Nat.le_refl _, fun _ _ => rfl⟩, h.len, h.lt⟩
theorem RW.big {B g n c : Nat} {w0 w : World} {L : List Nat} (h : RW B g n c w0 w L) : g < w.heap.size := (h.own.lt g rfl).2
theorem RW.put {B g n c : Nat} {w0 w : World} {L : List Nat} (h : RW B g n c w0 w L) (hB : B ≤ g) (x z : Nat) (hz : z < 18446744073709551616) : RW B g n c w0 (w.setCell ⟨g, x, none⟩ (.float .f64 z)) (L.set x z) := by
  refine ⟨?_, h.bel.setCell (p := ⟨g, x, none⟩) hB _, by rw [List.length_set]; exact h.len, fun y hy => ?_⟩
  · rw [← flts_set]; exact (h.own.stored x _).1
  · rcases List.mem_or_eq_of_mem_set hy with r | r
    · exact h.lt y r
    · rw [r]; exact hz
theorem set_other {L : List Nat} {x y z : Nat} (h : x ≠ y) : (L.set x z).getD y 0 = L.getD y 0 := by simp [List.getD_eq_getElem?_getD, List.getElem?_set_ne h]
theorem RW.swap {B g n c : Nat} {w0 w : World} {L : List Nat} (h : RW B g n c w0 w L) (hB : B ≤ g) (i j : Nat) : RW B g n c w0 ((w.setCell ⟨g, i, none⟩ (.float .f64 (L.getD j 0))).setCell ⟨g, j, none⟩ (.float .f64 (L.getD i 0))) (swp L i j) :=
  (h.put hB i _ (h.bd j)).put hB j _ (h.bd i)

theorem RW.two {B g n c : Nat} {w0 w : World} {L : List Nat} (h : RW B g n c w0 w L) (hB : B ≤ g) (x y z : Nat) (ne : x ≠ y) (hy : y < n) (hz : z < 18446744073709551616) : (w.setCell ⟨g, x, none⟩ (.float .f64 z)).drew.cell? ⟨g, y, none⟩ = some (.float .f64 (L.getD y 0)) := by
  have e := ((h.put hB x z hz).drew 1).get y hy
  rw [set_other ne] at e
  exact e

set_option maxHeartbeats 1000000 in
theorem swaps_any (w0 : World) (B g n c : Nat) (hB : B ≤ g) (hn : n ≤ 4000) (a b k : Nat) (hab : a + k ≤ b) (hb : b + k ≤ n) (L : List Nat) (w : World) (h : RW B g n c w0 w L) (cf : Value) :
    Calls Try.prog 40 #[.slice (some ⟨g, 0, none⟩) n c, .int .i64 (a : Int), .int .i64 (b : Int), .int .i64 (k : Int), cf] w fun e w' => e = .returned (.tuple #[]) ∧ ∃ M, RW B g n c w0 w' M ∧ PM a (b + k) L M ∧ ∀ x, M.getD x 0 = swf L a b k x := by
  have H : Hid (RW B g n c w0 w L) := h
  have hl := h.len
  clear h
  go_enter Try.func40, Try.ntmps40
  go_wp2_with fail
  go_loopw [10] (fun i wr => ∃ (q : Nat) (M : List Nat), q ≤ k ∧ i = .int .i64 q ∧ Hid (RW B g n c w0 wr M) ∧ Hid (PM a (b + k) L M) ∧ Hid (∀ x, M.getD x 0 = swf L a b q x)) (fun i _ => k - (intOf i).toNat)
  case atStart => exact ⟨0, L, Nat.zero_le _, rfl, H, PM.refl _ _ _, swf_zero L a b⟩
  case round =>
    obtain ⟨q, M, hq, rfl, R, P, F⟩ := hrel
    by_cases hlt : q < k
    · have hm : M.length = n := R.out.len
      have i1 : (q : Int) < (k : Int) := by omega
      obtain ⟨x, hx⟩ : ∃ x, x = a + q := ⟨_, rfl⟩
      obtain ⟨y, hy⟩ : ∃ y, y = b + q := ⟨_, rfl⟩
      have i2 : (a : Int) + (q : Int) = (x : Int) := by omega
      have i3 : (b : Int) + (q : Int) = (y : Int) := by omega
      have i4 : (x : Int) < (n : Int) := by omega
      have i5 : (y : Int) < (n : Int) := by omega
      have i6 : (0 : Int) ≤ (x : Int) := by omega
      have i7 : (0 : Int) ≤ (y : Int) := by omega
      have q1 : wr.drew.cell? ⟨g, x, none⟩ = some (.float .f64 (M.getD x 0)) := R.out.get x (by omega)
      have q2 : wr.drew.cell? ⟨g, y, none⟩ = some (.float .f64 (M.getD y 0)) := R.out.get y (by omega)
      have f1 : wr.drew.frozen? ⟨g, x, none⟩ = false := R.out.fz x
      have f2 : (wr.setCell ⟨g, x, none⟩ (.float .f64 (M.getD y 0))).drew.frozen? ⟨g, y, none⟩ = false := ((R.out.put hB x _ (R.out.bd y)).drew 1).fz y
      have q3 : (wr.setCell ⟨g, x, none⟩ (.float .f64 (M.getD y 0))).drew.cell? ⟨g, y, none⟩ = some (.float .f64 (M.getD y 0)) := R.out.two hB x y _ (by omega) (by omega) (R.out.bd y)
      have ne : ¬ x = y := by omega
      have S : Hid (RW B g n c w0 ((wr.setCell ⟨g, x, none⟩ (.float .f64 (M.getD y 0))).setCell ⟨g, y, none⟩ (.float .f64 (M.getD x 0))).drew (swp M x y)) := (R.out.swap hB x y).drew 1
      have P' : Hid (PM a (b + k) L (swp M x y)) := P.out.trans (swp_pm (by omega) (by omega) (by omega) (by omega) (by omega))
      have F' : Hid (∀ z, (swp M x y).getD z 0 = swf L a b (q + 1) z) := (by rw [hx, hy]; exact swf_step F.out (by omega) (by omega))
      clear R P F hx hy
      generalize M.getD x 0 = u at *
      generalize M.getD y 0 = v at *
      go_wp2_with fail
      go_region
      go_wp2_with fail
      go_roundw
      case rel => exact ⟨q + 1, _, by omega, by go_num, S, P', F'⟩
      case measure => simp [intOf]; omega
    · have hkn : q = k := by omega
      subst hkn
      go_wp2_with fail
      go_end0
      exact ⟨rfl, M, R.out, P.out, F.out⟩
end Go.Proofs.Ytfjkchkcgnjkaaa.Srt
