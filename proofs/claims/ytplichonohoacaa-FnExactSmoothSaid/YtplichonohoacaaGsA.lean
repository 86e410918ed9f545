/- Whether values fit a grid: the program and its model. -/
import Derived.Test.YtplichonohoacaaAtG
import Derived.Test.YtplichonohoacaaAtF
namespace Go.Proofs.Ytplichonohoacaa.Gd
open Go.ChangeShapes Go.WideShapes Go.ChangeAt Go.RowKit
open Go.Proofs.Ytplichonohoacaa.Flt

abbrev gv (r c s ws st : Int) : Value := .agg #[.int .i64 r, .int .i64 c, .int .i64 s, .int .i64 ws, .int .i64 st]
def right (r c s ws st : Int) (n : Nat) : Bool := gok r c s ws st && decide ((n : Int) = r * c)
theorem gok_parts {r c s ws st : Int} (h : gok r c s ws st = true) : (2 ≤ r ∧ r ≤ 64) ∧ (2 ≤ c ∧ c ≤ 64) ∧ (1 ≤ st ∧ st ≤ 3000) ∧ (-9000 ≤ s ∧ s ≤ 9000) ∧ (-18000 ≤ ws ∧ ws ≤ 18000) := by
  unfold gok at h
  simp only [Bool.and_eq_true, inn_iff, decide_eq_true_eq] at h
  obtain ⟨h1, h2, h3, h4, h5, h6⟩ := h
  exact ⟨h1, h2, h3, h4, h6⟩
theorem prod_le2 {r c : Int} (hr : 2 ≤ r ∧ r ≤ 64) (hs : 2 ≤ c ∧ c ≤ 64) : 4 ≤ r * c ∧ r * c ≤ 4096 := by
  obtain ⟨m, rfl⟩ : ∃ m : Nat, r = (m : Int) := ⟨r.toNat, by omega⟩
  obtain ⟨k, rfl⟩ : ∃ k : Nat, c = (k : Int) := ⟨c.toNat, by omega⟩
  have h1 : m * k ≤ 64 * 64 := Nat.mul_le_mul (by omega) (by omega)
  have h2 : 2 * 2 ≤ m * k := Nat.mul_le_mul (by omega) (by omega)
  rw [← Int.natCast_mul]
  omega
set_option maxHeartbeats 1000000 in
theorem sright_any (r c s ws st : Int) (n : Nat) (w : World) : Calls Try.prog 17 #[gv r c s ws st, .int .i64 (n : Int)] w fun e w' => e = .returned (.bool (right r c s ws st n)) ∧ Below w.heap.size w w' := by
  obtain ⟨w0, hw0⟩ : ∃ w0, w0 = w.alloc (Obj.cells #[.int .i64 r, .int .i64 c, .int .i64 s, .int .i64 ws, .int .i64 st] 26) := ⟨_, rfl⟩
  have HW : Hid (w0 = w.alloc (Obj.cells #[.int .i64 r, .int .i64 c, .int .i64 s, .int .i64 ws, .int .i64 st] 26)) := hw0
  have B0 : Hid (Below w.heap.size w w0) := (by show Below _ _ _; rw [hw0]; exact (Below.refl _ _).alloc (Nat.le_refl _) _)
  have GO : Hid (Calls Try.prog 30 #[gv r c s ws st] w0 fun e w' => e = .returned (.bool (gok r c s ws st)) ∧ Below w0.heap.size w0 w') := sgrid_any r c s ws st w0
  have s0 : w0.heap.size = w.heap.size + 1 := by rw [hw0]; simp
  have b0 : w0.cell? ⟨w.heap.size, 0, none⟩ = some (.int .i64 r) := by rw [hw0]; simp [go_sem]
  have b1 : w0.cell? ⟨w.heap.size, 1, none⟩ = some (.int .i64 c) := by rw [hw0]; simp [go_sem]
  have PQ : Hid (gok r c s ws st = true → wrap64 (r * c) = r * c) := fun h => by
    obtain ⟨h1, h2, _⟩ := gok_parts h
    have := prod_le2 h1 h2
    exact IntWalk.wrap64_in _ (by omega)
  clear hw0
  unfold right
  cases hg : gok r c s ws st
  · rw [hg] at GO
    clear PQ hg
    go_enter Try.func17, Try.ntmps17
    go_wp2_with fail
    rw [← HW.out]
    refine GO.out.mono ?_
    rintro e w1 ⟨rfl, b2⟩
    have B1 : Hid (Below w.heap.size w w1) := B0.out.trans (b2.mono B0.out.size)
    clear b2 HW
    go_wp2_with fail
    go_ret
    exact ⟨rfl, B1.out⟩
  · rw [hg] at GO
    have j1 := PQ.out hg
    clear PQ hg
    obtain ⟨p, hp⟩ : ∃ p, p = r * c := ⟨_, rfl⟩
    rw [← hp] at j1 ⊢
    have j2 : wrap64 (r * c) = p := by rw [hp]; rw [← hp]; exact j1
    clear hp j1
    by_cases hn : (n : Int) = p
    · subst hn
      go_enter Try.func17, Try.ntmps17
      go_wp2_with fail
      rw [← HW.out]
      refine GO.out.mono ?_
      rintro e w1 ⟨rfl, b2⟩
      have d0 := (b2.cell (p := ⟨w.heap.size, 0, none⟩) (by show w.heap.size < _; omega)).trans b0
      have d1 := (b2.cell (p := ⟨w.heap.size, 1, none⟩) (by show w.heap.size < _; omega)).trans b1
      have B1 : Hid (Below w.heap.size w w1) := B0.out.trans (b2.mono B0.out.size)
      clear b2 HW
      go_wp2_with fail
      go_ret
      exact ⟨by simp, B1.out⟩
    · have q : ((n : Int) == p) = false := by simpa using hn
      have HQ : Hid (decide ((n : Int) = p) = false) := decide_eq_false hn
      clear hn
      go_enter Try.func17, Try.ntmps17
      go_wp2_with fail
      rw [← HW.out]
      refine GO.out.mono ?_
      rintro e w1 ⟨rfl, b2⟩
      have d0 := (b2.cell (p := ⟨w.heap.size, 0, none⟩) (by show w.heap.size < _; omega)).trans b0
      have d1 := (b2.cell (p := ⟨w.heap.size, 1, none⟩) (by show w.heap.size < _; omega)).trans b1
      have B1 : Hid (Below w.heap.size w w1) := B0.out.trans (b2.mono B0.out.size)
      clear b2 HW
      go_wp2_with fail
      go_ret
      exact ⟨by rw [HQ.out]; rfl, B1.out⟩

set_option maxHeartbeats 1000000 in
theorem ifield_any (r c s ws st : Int) (a : Option Addr) (n cap : Nat) (w : World) : Calls Try.prog 20 #[gv r c s ws st, .slice a n cap] w fun e w' => e = .returned (.bool (right r c s ws st n)) ∧ Below w.heap.size w w' := by
  obtain ⟨w0, hw0⟩ : ∃ w0, w0 = w.alloc (Obj.cells #[.int .i64 r, .int .i64 c, .int .i64 s, .int .i64 ws, .int .i64 st] 26) := ⟨_, rfl⟩
  have HW : Hid (w0 = w.alloc (Obj.cells #[.int .i64 r, .int .i64 c, .int .i64 s, .int .i64 ws, .int .i64 st] 26)) := hw0
  have B0 : Hid (Below w.heap.size w w0) := (by show Below _ _ _; rw [hw0]; exact (Below.refl _ _).alloc (Nat.le_refl _) _)
  have GO : Hid (Calls Try.prog 33 #[gv r c s ws st] w0 fun e w' => e = .returned (.bool (gok r c s ws st)) ∧ Below w0.heap.size w0 w') := igrid_any r c s ws st w0
  have s0 : w0.heap.size = w.heap.size + 1 := by rw [hw0]; simp
  have b0 : w0.cell? ⟨w.heap.size, 0, none⟩ = some (.int .i64 r) := by rw [hw0]; simp [go_sem]
  have b1 : w0.cell? ⟨w.heap.size, 1, none⟩ = some (.int .i64 c) := by rw [hw0]; simp [go_sem]
  have PQ : Hid (gok r c s ws st = true → wrap64 (r * c) = r * c) := fun h => by
    obtain ⟨h1, h2, _⟩ := gok_parts h
    have := prod_le2 h1 h2
    exact IntWalk.wrap64_in _ (by omega)
  clear hw0
  unfold right
  cases hg : gok r c s ws st
  · rw [hg] at GO
    clear PQ hg
    go_enter Try.func20, Try.ntmps20
    go_wp2_with fail
    rw [← HW.out]
    refine GO.out.mono ?_
    rintro e w1 ⟨rfl, b2⟩
    have B1 : Hid (Below w.heap.size w w1) := B0.out.trans (b2.mono B0.out.size)
    clear b2 HW
    go_wp2_with fail
    go_ret
    exact ⟨rfl, B1.out⟩
  · rw [hg] at GO
    have j1 := PQ.out hg
    clear PQ hg
    obtain ⟨p, hp⟩ : ∃ p, p = r * c := ⟨_, rfl⟩
    rw [← hp] at j1 ⊢
    have j2 : wrap64 (r * c) = p := by rw [hp]; rw [← hp]; exact j1
    clear hp j1
    by_cases hn : (n : Int) = p
    · subst hn
      go_enter Try.func20, Try.ntmps20
      go_wp2_with fail
      rw [← HW.out]
      refine GO.out.mono ?_
      rintro e w1 ⟨rfl, b2⟩
      have d0 := (b2.cell (p := ⟨w.heap.size, 0, none⟩) (by show w.heap.size < _; omega)).trans b0
      have d1 := (b2.cell (p := ⟨w.heap.size, 1, none⟩) (by show w.heap.size < _; omega)).trans b1
      have B1 : Hid (Below w.heap.size w w1) := B0.out.trans (b2.mono B0.out.size)
      clear b2 HW
      go_wp2_with fail
      go_ret
      exact ⟨by simp, B1.out⟩
    · have q : ((n : Int) == p) = false := by simpa using hn
      have HQ : Hid (decide ((n : Int) = p) = false) := decide_eq_false hn
      clear hn
      go_enter Try.func20, Try.ntmps20
      go_wp2_with fail
      rw [← HW.out]
      refine GO.out.mono ?_
      rintro e w1 ⟨rfl, b2⟩
      have d0 := (b2.cell (p := ⟨w.heap.size, 0, none⟩) (by show w.heap.size < _; omega)).trans b0
      have d1 := (b2.cell (p := ⟨w.heap.size, 1, none⟩) (by show w.heap.size < _; omega)).trans b1
      have B1 : Hid (Below w.heap.size w w1) := B0.out.trans (b2.mono B0.out.size)
      clear b2 HW
      go_wp2_with fail
      go_ret
      exact ⟨by rw [HQ.out]; rfl, B1.out⟩

def Gx (w : World) (b : Nat) (r c s ws st : Int) : Prop := w.cell? ⟨b, 0, none⟩ = some (.int .i64 r) ∧ w.cell? ⟨b, 1, none⟩ = some (.int .i64 c) ∧ w.cell? ⟨b, 2, none⟩ = some (.int .i64 s) ∧ w.cell? ⟨b, 3, none⟩ = some (.int .i64 ws) ∧ w.cell? ⟨b, 4, none⟩ = some (.int .i64 st)
theorem Gx.on {w w' : World} {B b : Nat} {r c s ws st : Int} (h : Gx w b r c s ws st) (hb : Below B w w') (hl : b < B) : Gx w' b r c s ws st :=
  ⟨(hb.cell (p := ⟨b, 0, none⟩) hl).trans h.1, (hb.cell (p := ⟨b, 1, none⟩) hl).trans h.2.1, (hb.cell (p := ⟨b, 2, none⟩) hl).trans h.2.2.1, (hb.cell (p := ⟨b, 3, none⟩) hl).trans h.2.2.2.1, (hb.cell (p := ⟨b, 4, none⟩) hl).trans h.2.2.2.2⟩
theorem below_drewN {B : Nat} {a w : World} (h : Below B a w) (n : Nat) : Below B a (w.drewN n) := h.trans ⟨rfl, rfl, rfl, Nat.le_refl _, fun _ _ => rfl⟩
theorem reads_at {w : World} {v : Value} {L : List Nat} (hL : Fls.Reads w v L) : ∃ b o, (∀ i, i < L.length → w.cell? ⟨b, o + i, none⟩ = some (.float .f64 (L.getD i 0))) ∧ (0 < L.length → b < w.heap.size ∧ ∃ cap, v = .slice (some ⟨b, o, none⟩) L.length cap) := by
  rcases hL with ⟨rfl, _⟩ | ⟨b, o, cap, h1, h2, h3, h4, h5⟩
  · exact ⟨0, 0, fun i hi => by simp at hi, fun hi => by simp at hi⟩
  · exact ⟨b, o, h5, fun _ => ⟨h4, cap, h1⟩⟩
end Go.Proofs.Ytplichonohoacaa.Gd
