/- The law FnExactWave walked. -/
import Derived.Test.YthmoepebpeojdaaWvT
namespace Go.Proofs.Ythmoepebpeojdaa.Lists
open Go.ChangeShapes Go.WideShapes Go.ChangeAt Go.RowKit

theorem swave_any (w : World) (s : Int) (g cap : Nat) (X : List Int) (hg : g < w.heap.size) (hc : X.length ≤ cap) (hcm : cap ≤ maxLen) (K : ∀ i, i < X.length → w.cell? ⟨g, i, none⟩ = some (.int .i64 (X.getD i 0))) :
    Calls Try.prog 6 #[.slice (some ⟨g, 0, none⟩) X.length cap, .int .i64 s] w fun e w' => ∃ v, e = .returned (.tuple #[v, .bool (wvb X s)]) ∧ w'.ownsRow w.heap.size 2 1 v (wvs X s).length (ints (wvs X s)) ∧ Below w.heap.size w w' := by
  cases hb : wvb X s
  · have e1 : wvs X s = [] := by unfold wvs; unfold wvb at hb; rw [hb]; rfl
    rw [e1]
    exact swave_no w s g cap X hg hc hcm K hb
  · have e1 : wvs X s = wav s.toNat X.length X := by unfold wvs; unfold wvb at hb; rw [hb]; rfl
    have hb' := hb
    unfold wvb at hb'
    simp only [Bool.and_eq_true] at hb'
    obtain ⟨t, rfl⟩ : ∃ t : Nat, s = (t : Int) := ⟨s.toNat, by have := hb'.2; unfold okS at this; simp at this; omega⟩
    rw [e1, wav_len]
    exact swave_yes w t g cap X hg hc hcm K hb'.2 hb'.1
theorem wvs_len (X : List Int) (s : Int) : (wvs X s).length ≤ X.length := by
  unfold wvs
  split
  · rw [wav_len]; exact Nat.le_refl _
  · simp

/-- A row that lies below B reads the same later. -/
theorem row_later {w w' : World} {base B n : Nat} {v : Value} {xs : List Value} (h : w.ownsRow base 2 1 v n xs) (hb : Below B w w') (hB : w.heap.size ≤ B) : w'.ownsRow base 2 1 v n xs := by
  refine h.kept (row := none) ⟨hb.os, hb.tape, hb.output, hb.size, fun k hk _ => hb.block k (by omega)⟩ ?_
  by_cases e : v.ownBlock = none
  · exact Or.inl e
  · exact Or.inr e
theorem row_apart {w w' : World} {base b2 n : Nat} {v v2 : Value} {xs : List Value} (h : w.ownsRow base 2 1 v n xs) (hg : w.grownBy w' v2.ownBlock) (h2 : ∀ k, v2.ownBlock = some k → b2 ≤ k) (hlt : ∀ k, v.ownBlock = some k → k < b2) : w'.ownsRow base 2 1 v n xs := by
  refine h.kept hg ?_
  cases e : v.ownBlock with
  | none => exact Or.inl rfl
  | some k =>
    refine Or.inr fun x => ?_
    have a := hlt k e
    have b := h2 k x.symm
    omega
theorem row_apart' {w w' : World} {base b2 n : Nat} {v v2 : Value} {xs : List Value} (h : w.ownsRow base 2 1 v n xs) (hg : w.grownBy w' v2.ownBlock) (h2 : ∀ k, v2.ownBlock = some k → k < b2) (hlt : ∀ k, v.ownBlock = some k → b2 ≤ k) : w'.ownsRow base 2 1 v n xs := by
  refine h.kept hg ?_
  cases e : v.ownBlock with
  | none => exact Or.inl rfl
  | some k =>
    refine Or.inr fun x => ?_
    have a := hlt k e
    have b := h2 k x.symm
    omega
theorem below_drewN {B : Nat} {a w : World} (h : Below B a w) (n : Nat) : Below B a (w.drewN n) := h.trans ⟨rfl, rfl, rfl, Nat.le_refl _, fun _ _ => rfl⟩
theorem row_drewN {w : World} {base n : Nat} {v : Value} {xs : List Value} (h : w.ownsRow base 2 1 v n xs) (m : Nat) : (w.drewN m).ownsRow base 2 1 v n xs := h

set_option maxHeartbeats 1000000 in
theorem law_long (a : Option Addr) (n cap : Nat) (s : Int) (w : World) (hn : 1048576 < n) (hm : n < 9223372036854775808) :
    Calls Try.prog 3 #[.slice a n cap, .int .i64 s] w fun e w' => e = .returned (.bool true) ∧ Below w.heap.size w w' := by
  have i1 : (1048576 : Int) < (n : Int) := by omega
  go_enter Try.func3, Try.ntmps3
  go_wp2_with fail
  go_ret
  exact ⟨rfl, Below.refl _ _⟩

set_option maxRecDepth 20000 in
set_option maxHeartbeats 1000000 in
theorem waveLaw (v : Value) (X : List Int) (s : Int) (w : World) (hR : Reads w v X) (hmax : X.length < 9223372036854775808) :
    Calls Try.prog 3 #[v, .int .i64 s] w fun e w' => e = .returned (.bool true) ∧ Below w.heap.size w w' := by
  obtain ⟨a, cap, rfl⟩ := hR.form
  by_cases hbig : 1048576 < X.length
  · exact law_long a X.length cap s w hbig hmax
  have hl : X.length ≤ 1048576 := by omega
  have hl2 := wvs_len X s
  obtain ⟨S, hS⟩ : ∃ S, S = wvs X s := ⟨_, rfl⟩
  obtain ⟨b, hb⟩ : ∃ b, b = wvb X s := ⟨_, rfl⟩
  have TO : Hid (∀ w', Below w.heap.size w w' → Calls Try.prog 7 #[.slice a X.length cap] w' fun e w'' => e = .returned (.slice (some ⟨w'.heap.size, 0, none⟩) X.length X.length) ∧ w''.ownsRow w'.heap.size 2 1 (.slice (some ⟨w'.heap.size, 0, none⟩) X.length X.length) X.length (ints X) ∧ Below w'.heap.size w' w'') := fun w' hb => to_any w' _ X (hR.on hb) hl
  have SW : Hid (∀ (w' : World) (B g : Nat), w'.ownsRow B 2 1 (.slice (some ⟨g, 0, none⟩) X.length X.length) X.length (ints X) → Calls Try.prog 6 #[.slice (some ⟨g, 0, none⟩) X.length X.length, .int .i64 s] w' fun e w'' => ∃ v, e = .returned (.tuple #[v, .bool b]) ∧ w''.ownsRow w'.heap.size 2 1 v S.length (ints S) ∧ Below w'.heap.size w' w'') := fun w' B g h => by
    rw [hS, hb]
    exact swave_any w' s g X.length X (h.lt g rfl).2 (Nat.le_refl _) (by unfold maxLen; omega) (fun i hi => row_cell h i hi)
  have IW : Hid (∀ (w' : World) (B g : Nat), w'.ownsRow B 2 1 (.slice (some ⟨g, 0, none⟩) X.length X.length) X.length (ints X) → Calls Try.prog 8 #[.slice (some ⟨g, 0, none⟩) X.length X.length, .int .i64 s] w' fun e w'' => ∃ v, e = .returned (.tuple #[v, .bool b]) ∧ w''.ownsRow w'.heap.size 2 1 v S.length (ints S) ∧ Below w'.heap.size w' w'') := fun w' B g h => by
    rw [hS, hb]
    exact iwave_any w' s g X.length X (h.lt g rfl).2 (Nat.le_refl _) (by unfold maxLen; omega) (fun i hi => row_cell h i hi)
  rw [← hS] at hl2
  have c1 : ¬ ((1048576 : Int) < (X.length : Int)) := by omega
  have hS2 : S.length ≤ 1048576 := by omega
  have hbb : (b != b) = false := by cases b <;> rfl
  have hqq : ((1 : Int) + (S.length : Int) != 1 + (S.length : Int)) = false := by simp
  have hq0 : ¬ (1 : Int) + (S.length : Int) < 0 := by omega
  have hq1 : ¬ (1 : Int) + (X.length : Int) < 0 := by omega
  clear hS hb hR hbig hl2
  go_enter Try.func3, Try.ntmps3
  go_wp2_with fail
  refine (TO.out w (Below.refl _ _)).mono ?_
  rintro e w1 ⟨rfl, r1, b1⟩
  have B1 : Hid (Below w.heap.size w w1) := b1
  have R1 : Hid (w1.ownsRow w.heap.size 2 1 (.slice (some ⟨w.heap.size, 0, none⟩) X.length X.length) X.length (ints X)) := r1
  clear r1 b1
  go_wp2_with fail
  refine (SW.out w1 _ _ R1.out).mono ?_
  rintro e w2 ⟨v0, rfl, r2, b2⟩
  have z1 := B1.out.size
  have z2 := b2.size
  have B2 : Hid (Below w.heap.size w w2) := B1.out.trans (b2.mono z1)
  have R2 : Hid (w2.ownsRow w1.heap.size 2 1 v0 S.length (ints S)) := r2
  clear r2 b2 R1 B1
  go_wp2_with fail
  refine (TO.out w2 B2.out).mono ?_
  rintro e w3 ⟨rfl, r3, b3⟩
  have z3 := b3.size
  have B3 : Hid (Below w.heap.size w w3) := B2.out.trans (b3.mono (by omega))
  have X3 : Hid (w3.ownsRow w2.heap.size 2 1 (.slice (some ⟨w2.heap.size, 0, none⟩) X.length X.length) X.length (ints X)) := r3
  have R3 : Hid (w3.ownsRow w1.heap.size 2 1 v0 S.length (ints S)) := row_later R2.out b3 (Nat.le_refl _)
  have l0 : Hid (∀ k, v0.ownBlock = some k → k < w2.heap.size) := fun k hk => (R2.out.lt k hk).2
  have x3 := (X3.out.lt w2.heap.size rfl).2
  clear r3 b3 R2 B2
  go_wp2_with fail
  refine (IW.out w3 _ _ X3.out).mono ?_
  rintro e w4 ⟨v1, rfl, r4, b4⟩
  have z4 := b4.size
  have B4 : Hid (Below w.heap.size w w4) := B3.out.trans (b4.mono (by omega))
  have X4 : Hid (w4.ownsRow w2.heap.size 2 1 (.slice (some ⟨w2.heap.size, 0, none⟩) X.length X.length) X.length (ints X)) := row_later X3.out b4 (Nat.le_refl _)
  have R4 : Hid (w4.ownsRow w1.heap.size 2 1 v0 S.length (ints S)) := row_later R3.out b4 (Nat.le_refl _)
  have V4 : Hid (w4.ownsRow w3.heap.size 2 1 v1 S.length (ints S)) := r4
  have l1 : Hid (∀ k, v1.ownBlock = some k → w3.heap.size ≤ k) := fun k hk => (V4.out.lt k hk).1
  clear r4 b4 R3 X3 B3
  go_wp2_with fail
  refine (eq_same _ _ _ _ _ S V4.out R4.out).mono ?_
  rintro e w5 ⟨rfl, n5, rfl⟩
  have B5 : Hid (Below w.heap.size w (w4.drewN n5)) := below_drewN B4.out n5
  go_wp2_with fail
  refine (TO.out (w4.drewN n5) B5.out).mono ?_
  rintro e w6 ⟨rfl, r6, b6⟩
  have z6 : w4.heap.size ≤ w6.heap.size := b6.size
  have B6 : Hid (Below w.heap.size w w6) := B5.out.trans (b6.mono (by show w.heap.size ≤ w4.heap.size; omega))
  have X6 : Hid (w6.ownsRow w2.heap.size 2 1 (.slice (some ⟨w2.heap.size, 0, none⟩) X.length X.length) X.length (ints X)) := row_later (row_drewN X4.out n5) b6 (Nat.le_refl _)
  have R6 : Hid (w6.ownsRow w1.heap.size 2 1 v0 S.length (ints S)) := row_later (row_drewN R4.out n5) b6 (Nat.le_refl _)
  have V6 : Hid (w6.ownsRow w3.heap.size 2 1 v1 S.length (ints S)) := row_later (row_drewN V4.out n5) b6 (Nat.le_refl _)
  have T6 : Hid (w6.ownsRow (w4.drewN n5).heap.size 2 1 (.slice (some ⟨(w4.drewN n5).heap.size, 0, none⟩) X.length X.length) X.length (ints X)) := r6
  clear r6 b6 R4 X4 V4 B4 B5
  go_wp2_with fail
  refine (eq_same _ _ _ _ _ X X6.out T6.out).mono ?_
  rintro e w7 ⟨rfl, n7, rfl⟩
  clear T6
  go_wp2_with fail
  refine (mark_any (w6.drewN n7) w2.heap.size _ X 1 (by omega) (by omega) (by omega) (row_drewN X6.out n7)).mono ?_
  rintro e w8 ⟨rfl, r8, g8⟩
  have z8 : w6.heap.size ≤ w8.heap.size := g8.size
  have xo : ∀ k, (Value.slice (some ⟨w2.heap.size, 0, none⟩) X.length X.length).ownBlock = some k → w2.heap.size ≤ k := fun k hk => by simp [Value.ownBlock] at hk; omega
  have xo' : ∀ k, (Value.slice (some ⟨w2.heap.size, 0, none⟩) X.length X.length).ownBlock = some k → k < w3.heap.size := fun k hk => by simp [Value.ownBlock] at hk; omega
  have R8 : Hid (w8.ownsRow w1.heap.size 2 1 v0 S.length (ints S)) := row_apart (row_drewN R6.out n7) g8 xo l0.out
  have V8 : Hid (w8.ownsRow w3.heap.size 2 1 v1 S.length (ints S)) := row_apart' (row_drewN V6.out n7) g8 xo' l1.out
  have B8 : Hid (Below w.heap.size w w8) := (below_drewN B6.out n7).grown g8 (by show w.heap.size ≤ w6.heap.size; omega) (fun k hk => by have := xo k hk; omega)
  clear r8 g8 R6 V6 X6 B6 xo xo'
  go_wp2_with fail
  refine (eq_same _ _ _ _ _ S V8.out R8.out).mono ?_
  rintro e w9 ⟨rfl, n9, rfl⟩
  go_wp2_with fail
  refine (mark_any (w8.drewN n9) w3.heap.size v1 S 1 (by omega) (by omega) (by omega) (row_drewN V8.out n9)).mono ?_
  rintro e w10 ⟨rfl, r10, g10⟩
  have z10 : w8.heap.size ≤ w10.heap.size := g10.size
  have V10 : Hid (w10.ownsRow w3.heap.size 2 1 v1 S.length (ints (sq 1 S.length))) := r10
  have R10 : Hid (w10.ownsRow w1.heap.size 2 1 v0 S.length (ints S)) := row_apart (row_drewN R8.out n9) g10 (fun k hk => by have := l1.out k hk; omega) l0.out
  have B10 : Hid (Below w.heap.size w w10) := (below_drewN B8.out n9).grown g10 (by show w.heap.size ≤ w8.heap.size; omega) (fun k hk => by have := l1.out k hk; omega)
  clear r10 g10 R8 V8 B8
  go_wp2_with fail
  refine (held_any _ w3.heap.size v1 S.length 1 (by omega) (by omega) (by omega) V10.out).mono ?_
  rintro e w11 ⟨rfl, hw11⟩
  have hw11' := hw11.symm
  subst hw11'
  go_wp2_with fail
  refine (TO.out w10 B10.out).mono ?_
  rintro e w12 ⟨rfl, r12, b12⟩
  have z12 := b12.size
  have B12 : Hid (Below w.heap.size w w12) := B10.out.trans (b12.mono (by omega))
  have R12 : Hid (w12.ownsRow w1.heap.size 2 1 v0 S.length (ints S)) := row_later R10.out b12 (Nat.le_refl _)
  have V12 : Hid (w12.ownsRow w3.heap.size 2 1 v1 S.length (ints (sq 1 S.length))) := row_later V10.out b12 (Nat.le_refl _)
  have T12 : Hid (w12.ownsRow w10.heap.size 2 1 (.slice (some ⟨w10.heap.size, 0, none⟩) X.length X.length) X.length (ints X)) := r12
  clear r12 b12 R10 V10 B10
  go_wp2_with fail
  refine (IW.out w12 _ _ T12.out).mono ?_
  rintro e w13 ⟨v2, rfl, r13, b13⟩
  have z13 := b13.size
  have B13 : Hid (Below w.heap.size w w13) := B12.out.trans (b13.mono (by omega))
  have R13 : Hid (w13.ownsRow w1.heap.size 2 1 v0 S.length (ints S)) := row_later R12.out b13 (Nat.le_refl _)
  have V13 : Hid (w13.ownsRow w3.heap.size 2 1 v1 S.length (ints (sq 1 S.length))) := row_later V12.out b13 (Nat.le_refl _)
  have N13 : Hid (w13.ownsRow w12.heap.size 2 1 v2 S.length (ints S)) := r13
  clear r13 b13 R12 V12 B12 T12
  go_wp2_with fail
  refine (eq_same _ _ _ _ _ S N13.out R13.out).mono ?_
  rintro e w14 ⟨rfl, n14, rfl⟩
  go_wp2_with fail
  refine (held_any (w13.drewN n14) w3.heap.size v1 S.length 1 (by omega) (by omega) (by omega) (row_drewN V13.out n14)).mono ?_
  rintro e w15 ⟨rfl, hw15⟩
  have hw15' := hw15.symm
  subst hw15'
  go_wp2_with fail
  go_ret
  exact ⟨rfl, below_drewN B13.out n14⟩
end Go.Proofs.Ythmoepebpeojdaa.Lists
