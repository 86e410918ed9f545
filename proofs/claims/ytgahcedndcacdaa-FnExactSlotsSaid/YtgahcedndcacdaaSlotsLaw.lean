/- The law FnExactSlots walked. -/
import Derived.Test.YtgahcedndcacdaaSlotsS
import Derived.Test.YtgahcedndcacdaaSlotsJ
namespace Go.Proofs.Ytgahcedndcacdaa.Lists
open Go.ChangeShapes Go.WideShapes Go.ChangeAt Go.RowKit Spans

theorem slots_len (f t s : Int) : (slotsOf f t s).length ≤ 1000 := by
  unfold slotsOf
  split
  · split
    · simp
    · rw [cells_len]; omega
  · simp

/-- A row that lies below B reads the same later. -/
theorem row_later {w w' : World} {base B n : Nat} {v : Value} {xs : List Value} (h : w.ownsRow base 2 1 v n xs) (hb : Below B w w') (hB : w.heap.size ≤ B) : w'.ownsRow base 2 1 v n xs := by
  refine h.kept (row := none) ⟨hb.os, hb.tape, hb.output, hb.size, fun k hk _ => hb.block k (by omega)⟩ ?_
  by_cases e : v.ownBlock = none
  · exact Or.inl e
  · exact Or.inr e
theorem row_apart {w w' : World} {base b2 n : Nat} {v v2 : Value} {xs : List Value} (h : w.ownsRow base 2 1 v n xs) (hg : w.grownBy w' v2.ownBlock) (h2 : ∀ k, v2.ownBlock = some k → b2 ≤ k) (hlt : ∀ k, v.ownBlock = some k → k < b2) : w'.ownsRow base 2 1 v n xs := by
  refine h.kept hg ?_
  cases e : v.ownBlock with
  | none => exact Or.inl rfl
  | some k =>
    refine Or.inr fun x => ?_
    have a := hlt k e
    have b := h2 k x.symm
    omega

theorem row_drewN {w : World} {base n : Nat} {v : Value} {xs : List Value} (h : w.ownsRow base 2 1 v n xs) (m : Nat) : (w.drewN m).ownsRow base 2 1 v n xs := h

theorem box {w w' : World} {a b : Int} (hb : Below (w.heap.size + 1) (w.alloc (.cells #[.int .i64 a, .int .i64 b] 23)) w') : w'.cell? ⟨w.heap.size, 0, none⟩ = some (.int .i64 a) ∧ w'.cell? ⟨w.heap.size, 1, none⟩ = some (.int .i64 b) := by
  refine ⟨?_, ?_⟩
  · rw [hb.cell (by simp)]; simp [go_sem]
  · rw [hb.cell (by simp)]; simp [go_sem]

set_option maxHeartbeats 1000000 in
theorem slotsLaw (f t s : Int) (w : World) :
    Calls Try.prog 3 (args2 f t s) w fun e w' => e = .returned (.bool true) ∧ Below w.heap.size w w' := by
  have hlen := slots_len f t s
  obtain ⟨L, hL⟩ : ∃ L, L = slotsOf f t s := ⟨_, rfl⟩
  have HS : Hid (∀ w, Calls Try.prog 4 (args2 f t s) w fun e w' => ∃ v, e = .returned v ∧ w'.ownsRow w.heap.size 2 1 v L.length (ints L) ∧ Below w.heap.size w w') := fun w => by rw [hL]; exact sslots f t s w
  have HI : Hid (∀ w, Calls Try.prog 6 (args2 f t s) w fun e w' => ∃ v, e = .returned v ∧ w'.ownsRow w.heap.size 2 1 v L.length (ints L) ∧ Below w.heap.size w w') := fun w => by rw [hL]; exact islots f t s w
  rw [← hL] at hlen
  clear hL
  have hqq : ((1 : Int) + (L.length : Int) != 1 + (L.length : Int)) = false := by simp
  have hq0 : ¬ (1 : Int) + (L.length : Int) < 0 := by omega
  go_enter Try.func3, Try.ntmps3
  go_wp2_with fail
  refine (toSpan_any _ _ _).mono ?_
  rintro e w1 ⟨rfl, hb1⟩
  have z1 := hb1.size
  simp at z1
  have b1 : Hid (Below (w.heap.size + 1) (w.alloc (.cells #[.int .i64 f, .int .i64 t] 23)) w1) := hb1.mono (by simp)
  go_wp2_with fail
  refine (HS.out _).mono ?_
  rintro e w2 ⟨v0, rfl, r0, hb2⟩
  have z2 := hb2.size
  have b2 : Hid (Below (w.heap.size + 1) (w.alloc (.cells #[.int .i64 f, .int .i64 t] 23)) w2) := b1.out.trans (hb2.mono (by omega))
  have R0 : Hid (w2.ownsRow w1.heap.size 2 1 v0 L.length (ints L)) := r0
  obtain ⟨c0, c1⟩ := box b2.out
  clear r0 hb1 hb2 b1
  go_wp2_with fail
  refine (toSpan_any _ _ _).mono ?_
  rintro e w3 ⟨rfl, hb3⟩
  have z3 := hb3.size
  go_wp2_with fail
  refine (HI.out _).mono ?_
  rintro e w4 ⟨v1, rfl, r1, hb4⟩
  have z4 := hb4.size
  have b4 : Hid (Below (w.heap.size + 1) (w.alloc (.cells #[.int .i64 f, .int .i64 t] 23)) w4) := b2.out.trans ((hb3.mono (by omega)).trans (hb4.mono (by omega)))
  have R1 : Hid (w4.ownsRow w3.heap.size 2 1 v1 L.length (ints L)) := r1
  have R0' : Hid (w4.ownsRow w1.heap.size 2 1 v0 L.length (ints L)) := row_later (row_later R0.out hb3 (Nat.le_refl _)) hb4 (Nat.le_refl _)
  have hl0 : Hid (∀ k, v0.ownBlock = some k → k < w3.heap.size) := fun k hk => by have := (R0.out.lt k hk).2; omega
  have hl1 : Hid (∀ k, v1.ownBlock = some k → w3.heap.size ≤ k) := fun k hk => (R1.out.lt k hk).1
  clear r1 hb3 hb4 b2 R0 c0 c1
  go_wp2_with fail
  refine (eq_same _ _ _ _ _ L R1.out R0'.out).mono ?_
  rintro e w5 ⟨rfl, n5, rfl⟩
  go_wp2_with fail
  refine (mark_any (w4.drewN n5) w3.heap.size v1 L 1 (by omega) (by omega) (by omega) (row_drewN R1.out n5)).mono ?_
  rintro e w6 ⟨rfl, r6, hg6⟩
  have z6 : w4.heap.size ≤ w6.heap.size := hg6.size
  have R6 : Hid (w6.ownsRow w3.heap.size 2 1 v1 L.length (ints (sq 1 L.length))) := r6
  have R06 : Hid (w6.ownsRow w1.heap.size 2 1 v0 L.length (ints L)) := row_apart (row_drewN R0'.out n5) hg6 hl1.out hl0.out
  have b6 : Hid (Below (w.heap.size + 1) (w.alloc (.cells #[.int .i64 f, .int .i64 t] 23)) w6) := (below_drewN b4.out n5).grown hg6 (by show w.heap.size + 1 ≤ w4.heap.size; omega) (fun k hk => by have := hl1.out k hk; omega)
  clear r6 hg6 R0' R1
  go_wp2_with fail
  refine (held_any _ w3.heap.size v1 L.length 1 (by omega) (by omega) (by omega) R6.out).mono ?_
  rintro e w7 ⟨rfl, hw7⟩
  subst hw7
  obtain ⟨c0, c1⟩ := box b6.out
  go_wp2_with fail
  refine (toSpan_any _ _ _).mono ?_
  rintro e w8 ⟨rfl, hb8⟩
  have z8 := hb8.size
  go_wp2_with fail
  refine (HI.out _).mono ?_
  rintro e w9 ⟨v9, rfl, r9, hb9⟩
  have z9 := hb9.size
  have R9 : Hid (w9.ownsRow w8.heap.size 2 1 v9 L.length (ints L)) := r9
  have R09 : Hid (w9.ownsRow w1.heap.size 2 1 v0 L.length (ints L)) := row_later (row_later R06.out hb8 (Nat.le_refl _)) hb9 (Nat.le_refl _)
  have R19 : Hid (w9.ownsRow w3.heap.size 2 1 v1 L.length (ints (sq 1 L.length))) := row_later (row_later R6.out hb8 (Nat.le_refl _)) hb9 (Nat.le_refl _)
  have b9 : Hid (Below (w.heap.size + 1) (w.alloc (.cells #[.int .i64 f, .int .i64 t] 23)) w9) := b6.out.trans ((hb8.mono (by omega)).trans (hb9.mono (by omega)))
  clear r9 hb8 hb9 R06 R6 b6 c0 c1
  go_wp2_with fail
  refine (eq_same _ _ _ _ _ L R9.out R09.out).mono ?_
  rintro e w10 ⟨rfl, n10, rfl⟩
  go_wp2_with fail
  refine (held_any (w9.drewN n10) w3.heap.size v1 L.length 1 (by omega) (by omega) (by omega) (row_drewN R19.out n10)).mono ?_
  rintro e w11 ⟨rfl, hw11⟩
  subst hw11
  go_wp2_with fail
  go_ret
  exact ⟨rfl, below_drewN (((Below.refl w.heap.size w).alloc (Nat.le_refl _) _).trans (b9.out.mono (by omega))) n10⟩
end Go.Proofs.Ytgahcedndcacdaa.Lists
