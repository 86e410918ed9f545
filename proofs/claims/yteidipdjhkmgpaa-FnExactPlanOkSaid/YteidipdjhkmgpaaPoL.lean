/- The law FnExactPlanOk walked; a table that comes in as an argument, opened. -/
import Derived.Test.YteidipdjhkmgpaaPoJ
import Derived.Deep.Slices
namespace Go.Proofs.Yteidipdjhkmgpaa.Lists
open Go.ChangeShapes Go.WideShapes Go.ChangeAt Go.RowKit

set_option maxHeartbeats 400000 in
theorem sz_any (a : Option Addr) (n cap : Nat) (w : World) (hn : n ≤ 1048576) : Calls Try.prog 4 #[.slice a n cap, .int .i64 1048576] w fun e w' => e = .returned (.int .i64 (1048576 - (n : Int))) ∧ w' = w := by
  have h1 : ¬ ((1048576 : Int) - (n : Int) < 0) := by omega
  go_enter Try.func4, Try.ntmps4
  go_wp2_with fail
  go_ret
  exact ⟨by simp, rfl⟩
set_option maxHeartbeats 400000 in
theorem sz_big (a : Option Addr) (n cap : Nat) (w : World) (hn : 1048576 < n) (hm : n < 9223372036854775808) : Calls Try.prog 4 #[.slice a n cap, .int .i64 1048576] w fun e w' => e = .returned (.int .i64 (-1)) ∧ w' = w := by
  have h1 : (1048576 : Int) - (n : Int) < 0 := by omega
  go_enter Try.func4, Try.ntmps4
  go_wp2_with fail
  go_ret
  exact ⟨rfl, rfl⟩

set_option maxRecDepth 20000 in
set_option maxHeartbeats 1000000 in
theorem planLaw (tv pv : Value) (T : El) (P : List Int) (w : World) (hT : ReadsE w tv T) (hP : Reads w pv P) (hTm : T.length < 9223372036854775808) (hPm : P.length < 9223372036854775808) (hPb : ∀ i, i < P.length → P.getD i 0 < 9223372036854775808) :
    Calls Try.prog 3 #[tv, pv] w fun e w' => e = .returned (.bool true) ∧ Below w.heap.size w w' := by
  have HT : Hid (ReadsE w tv T) := hT
  have HPR : Hid (Reads w pv P) := hP
  obtain ⟨ta, tc, rfl⟩ := hT.form
  obtain ⟨pa, pc, rfl⟩ := hP.form
  clear hT hP
  by_cases hb1 : 1048576 < P.length
  · have i1 : (1048576 : Int) < (P.length : Int) := by omega
    go_enter Try.func3, Try.ntmps3
    go_wp2_with fail
    go_ret
    exact ⟨rfl, Below.refl _ _⟩
  have i1 : ¬ ((1048576 : Int) < (P.length : Int)) := by omega
  by_cases hb2 : 1048576 < T.length
  · have HS : Hid (Calls Try.prog 4 #[.slice ta T.length tc, .int .i64 1048576] w fun e w' => e = .returned (.int .i64 (-1)) ∧ w' = w) := sz_big ta T.length tc w hb2 hTm
    clear hb1 hb2
    go_enter Try.func3, Try.ntmps3
    go_wp2_with (go_at_call 4; refine HS.out.mono ?_; rintro e w1 ⟨rfl, hw⟩; have hw' := hw.symm; subst hw')
    go_ret
    exact ⟨rfl, Below.refl _ _⟩
  have HS : Hid (Calls Try.prog 4 #[.slice ta T.length tc, .int .i64 1048576] w fun e w' => e = .returned (.int .i64 (1048576 - (T.length : Int))) ∧ w' = w) := sz_any ta T.length tc w (by omega)
  have i2 : ¬ ((1048576 : Int) - (T.length : Int) < 0) := by omega
  have hTl : T.length ≤ 1048576 := by omega
  have hPl : P.length ≤ 1048576 := by omega
  have TE : Hid (∀ w', Below w.heap.size w w' → Calls Try.prog 6 #[.slice ta T.length tc] w' fun e w'' => ∃ v', e = .returned v' ∧ ReadsE w'' v' T ∧ Below w'.heap.size w' w'') := fun w' hb => toE_any w' _ T (HT.out.on hb) hTl
  have TP : Hid (∀ w', Below w.heap.size w w' → Calls Try.prog 7 #[.slice pa P.length pc] w' fun e w'' => e = .returned (.slice (some ⟨w'.heap.size, 0, none⟩) P.length P.length) ∧ w''.ownsRow w'.heap.size 2 1 (.slice (some ⟨w'.heap.size, 0, none⟩) P.length P.length) P.length (ints P) ∧ Below w'.heap.size w' w'') := fun w' hb => to_any w' _ P (HPR.out.on hb) hPl
  obtain ⟨R, hR⟩ : ∃ r, r = pOk T P := ⟨_, rfl⟩
  have SP : Hid (∀ (w' : World) (v : Value) (B g : Nat), ReadsE w' v T → w'.ownsRow B 2 1 (.slice (some ⟨g, 0, none⟩) P.length P.length) P.length (ints P) → Calls Try.prog 5 #[v, .slice (some ⟨g, 0, none⟩) P.length P.length] w' fun e w'' => e = .returned (.bool R) ∧ Below w'.heap.size w' w'') := fun w' v B g h1 h2 => by
    rw [hR]
    exact splan_any w' v T g P.length P.length P h1 hTl rfl (Nat.le_refl _) (by unfold maxLen; omega) (h2.lt g rfl).2 (fun i hi => by rw [Nat.zero_add]; exact row_cell h2 i hi)
  have IP : Hid (∀ (w' : World) (v : Value) (B g : Nat), ReadsE w' v T → w'.ownsRow B 2 1 (.slice (some ⟨g, 0, none⟩) P.length P.length) P.length (ints P) → Calls Try.prog 8 #[v, .slice (some ⟨g, 0, none⟩) P.length P.length] w' fun e w'' => e = .returned (.bool R) ∧ Below w'.heap.size w' w'') := fun w' v B g h1 h2 => by
    rw [hR]
    exact iplan_any w' v T g P.length P.length P h1 hTl rfl (Nat.le_refl _) (by unfold maxLen; omega) (h2.lt g rfl).2 (fun i hi => by rw [Nat.zero_add]; exact row_cell h2 i hi) hPb
  have hRR : (R != R) = false := by cases R <;> rfl
  clear hR hb1 hb2 hPb HT HPR hTm hPm
  go_enter Try.func3, Try.ntmps3
  go_wp2_with (go_at_call 4; refine HS.out.mono ?_; rintro e w1 ⟨rfl, hw⟩; have hw' := hw.symm; subst hw')
  refine (TE.out w (Below.refl _ _)).mono ?_
  rintro e w1 ⟨v1, rfl, r1, b1⟩
  have B1 : Hid (Below w.heap.size w w1) := b1
  have R1 : Hid (ReadsE w1 v1 T) := r1
  clear r1 b1
  go_wp2_with fail
  refine (TP.out w1 B1.out).mono ?_
  rintro e w2 ⟨rfl, r2, b2⟩
  have z2 := b2.size
  have B2 : Hid (Below w.heap.size w w2) := B1.out.trans (b2.mono B1.out.size)
  have R2 : Hid (ReadsE w2 v1 T) := R1.out.on b2
  have P2 : Hid (w2.ownsRow w1.heap.size 2 1 (.slice (some ⟨w1.heap.size, 0, none⟩) P.length P.length) P.length (ints P)) := r2
  clear r2 b2 B1 R1
  go_wp2_with fail
  refine (SP.out w2 _ _ _ R2.out P2.out).mono ?_
  rintro e w3 ⟨rfl, b3⟩
  have z3 := b3.size
  have B3 : Hid (Below w.heap.size w w3) := B2.out.trans (b3.mono B2.out.size)
  clear b3 B2 R2 P2
  go_wp2_with fail
  refine (TE.out w3 B3.out).mono ?_
  rintro e w4 ⟨v4, rfl, r4, b4⟩
  have z4 := b4.size
  have B4 : Hid (Below w.heap.size w w4) := B3.out.trans (b4.mono B3.out.size)
  have R4 : Hid (ReadsE w4 v4 T) := r4
  clear r4 b4 B3
  go_wp2_with fail
  refine (TP.out w4 B4.out).mono ?_
  rintro e w5 ⟨rfl, r5, b5⟩
  have z5 := b5.size
  have B5 : Hid (Below w.heap.size w w5) := B4.out.trans (b5.mono B4.out.size)
  have R5 : Hid (ReadsE w5 v4 T) := R4.out.on b5
  have P5 : Hid (w5.ownsRow w4.heap.size 2 1 (.slice (some ⟨w4.heap.size, 0, none⟩) P.length P.length) P.length (ints P)) := r5
  clear r5 b5 B4 R4
  go_wp2_with fail
  refine (IP.out w5 _ _ _ R5.out P5.out).mono ?_
  rintro e w6 ⟨rfl, b6⟩
  have z6 := b6.size
  have B6 : Hid (Below w.heap.size w w6) := B5.out.trans (b6.mono B5.out.size)
  have R6 : Hid (ReadsE w6 v4 T) := R5.out.on b6
  have P6 : Hid (w6.ownsRow w4.heap.size 2 1 (.slice (some ⟨w4.heap.size, 0, none⟩) P.length P.length) P.length (ints P)) := row_below P5.out b6
  clear b6 B5 R5 P5
  go_wp2_with fail
  refine (TE.out w6 B6.out).mono ?_
  rintro e w7 ⟨v7, rfl, r7, b7⟩
  have z7 := b7.size
  have B7 : Hid (Below w.heap.size w w7) := B6.out.trans (b7.mono B6.out.size)
  have R7 : Hid (ReadsE w7 v4 T) := R6.out.on b7
  have P7 : Hid (w7.ownsRow w4.heap.size 2 1 (.slice (some ⟨w4.heap.size, 0, none⟩) P.length P.length) P.length (ints P)) := row_below P6.out b7
  have E7 : Hid (ReadsE w7 v7 T) := r7
  clear r7 b7 B6 R6 P6
  go_wp2_with fail
  refine (eqE_same w7 _ _ T R7.out E7.out hTl).mono ?_
  rintro e w8 ⟨rfl, b8⟩
  have z8 := b8.size
  have B8 : Hid (Below w.heap.size w w8) := B7.out.trans (b8.mono B7.out.size)
  have P8 : Hid (w8.ownsRow w4.heap.size 2 1 (.slice (some ⟨w4.heap.size, 0, none⟩) P.length P.length) P.length (ints P)) := row_below P7.out b8
  clear b8 B7 R7 P7 E7
  go_wp2_with fail
  refine (TP.out w8 B8.out).mono ?_
  rintro e w9 ⟨rfl, r9, b9⟩
  have B9 : Hid (Below w.heap.size w w9) := B8.out.trans (b9.mono B8.out.size)
  have P9 : Hid (w9.ownsRow w4.heap.size 2 1 (.slice (some ⟨w4.heap.size, 0, none⟩) P.length P.length) P.length (ints P)) := row_below P8.out b9
  have Q9 : Hid (w9.ownsRow w8.heap.size 2 1 (.slice (some ⟨w8.heap.size, 0, none⟩) P.length P.length) P.length (ints P)) := r9
  clear r9 b9 B8 P8
  go_wp2_with fail
  refine (eq_same w9 _ _ _ _ P P9.out Q9.out).mono ?_
  rintro e w10 ⟨rfl, n10, rfl⟩
  go_wp2_with fail
  go_ret
  exact ⟨rfl, below_drewN B9.out n10⟩

variable {H : Type} {enc : TypeId × Value → H} {w : World} {base : Nat} {spare : Nat → Bool} {held : Bool}
theorem cells36 : Try.prog.cellsOf 36 = 4 := by kernel_rfl
theorem cells2 : Try.prog.cellsOf 2 = 1 := by kernel_rfl
set_option maxHeartbeats 1000000 in
theorem openElems {v : Value} {fuel : Nat} {x : DataW H × List MemPlace} {a : Option Addr} {len cap : Nat} (hv : v = .slice a len cap) (h : DataW.trod enc Try.prog w base spare held fuel 22 v.cells.toList = some x) :
    ∃ T : El, ReadsE w v T ∧ T.length < 9223372036854775808 := by
  subst hv
  rcases Go.Deep.open_slice Try.underlying22 h with ⟨hcs, _⟩ | ⟨ad, l, c, m, n, D, Pl, hcs, _, hl, hm, hmm, _, hel⟩
  · simp [Value.cells] at hcs
    obtain ⟨rfl, rfl, rfl⟩ := hcs
    exact ⟨[], Or.inl ⟨rfl, _, _, rfl⟩, by simp⟩
  · simp [Value.cells] at hcs
    obtain ⟨rfl, rfl, rfl⟩ := hcs
    have hle : len ≤ m := by rw [hmm]; split <;> omega
    have hone : ∀ i, i < len → ∃ z : Int × Int × Int × Int, w.cell? (ad.add (i * 4)) = some (.int .i64 z.1) ∧ w.cell? (ad.add (i * 4 + 1)) = some (.int .i64 z.2.1) ∧ w.cell? (ad.add (i * 4 + 2)) = some (.int .i64 z.2.2.1) ∧ w.cell? (ad.add (i * 4 + 3)) = some (.int .i64 z.2.2.2) := by
      intro i hi
      obtain ⟨cs', h1, h2⟩ := hel i (by omega)
      rw [cells36] at h1
      obtain ⟨_, hlen, hcell⟩ := World.cells?_some h1
      obtain ⟨xs, k, hk, hxy, _, hxl, hf⟩ := DataW.trod_struct Try.underlying36 h2
      match xs, hxl, cs', hlen with
      | [y0, y1, y2, y3], _, [v0, v1, v2, v3], _ =>
        have g0 := hf 0 _ rfl
        have g1 := hf 1 _ rfl
        have g2 := hf 2 _ rfl
        have g3 := hf 3 _ rfl
        simp [cells2] at g0 g1 g2 g3
        have e0 := hcell 0 (by omega)
        have e1 := hcell 1 (by omega)
        have e2 := hcell 2 (by omega)
        have e3 := hcell 3 (by omega)
        rw [Go.Deep.add_add] at e0 e1 e2 e3
        obtain ⟨p0, k0, _, _⟩ := DataW.trod_int Try.underlying2 g0
        obtain ⟨p1, k1, _, _⟩ := DataW.trod_int Try.underlying2 g1
        obtain ⟨p2, k2, _, _⟩ := DataW.trod_int Try.underlying2 g2
        obtain ⟨p3, k3, _, _⟩ := DataW.trod_int Try.underlying2 g3
        simp at k0 k1 k2 k3
        subst k0 k1 k2 k3
        exact ⟨(p0, p1, p2, p3), by simpa using e0, by simpa using e1, by simpa using e2, by simpa using e3⟩
    have hf : ∃ f : Nat → Int × Int × Int × Int, ∀ i, i < len → w.cell? (ad.add (i * 4)) = some (.int .i64 (f i).1) ∧ w.cell? (ad.add (i * 4 + 1)) = some (.int .i64 (f i).2.1) ∧ w.cell? (ad.add (i * 4 + 2)) = some (.int .i64 (f i).2.2.1) ∧ w.cell? (ad.add (i * 4 + 3)) = some (.int .i64 (f i).2.2.2) :=
      ⟨fun i => if h : i < len then Classical.choose (hone i h) else (0, 0, 0, 0), fun i hi => by simp only [hi, dif_pos]; exact Classical.choose_spec (hone i hi)⟩
    obtain ⟨f, hf⟩ := hf
    have hlen : ((List.range len).map f).length = len := by simp
    refine ⟨(List.range len).map f, ?_, by rw [hlen]; unfold maxLen at hm; omega⟩
    by_cases h0 : len = 0
    · subst h0
      exact Or.inl ⟨rfl, _, _, rfl⟩
    · obtain ⟨b, o, spot⟩ := ad
      have hc := (hf 0 (by omega)).1
      have hspot : spot = none := by simpa [Addr.add] using World.cell?_spot hc
      subst hspot
      have ad : ∀ k, (⟨b, o, none⟩ : Addr).add k = ⟨b, o + k, none⟩ := by
        intro k
        unfold Addr.add
        split
        · rename_i h; subst h; rfl
        · rfl
      refine Or.inr ⟨b, o, cap, by rw [hlen], by rw [hlen]; exact hl, hm, World.block_lt_of_cell? w _ hc, fun i hi => ?_⟩
      rw [hlen] at hi
      obtain ⟨h1, h2, h3, h4⟩ := hf i hi
      rw [ad] at h1 h2 h3 h4
      have e1 : cO ((List.range len).map f) i = (f i).1 := by simp [cO, hi]
      have e2 : wO ((List.range len).map f) i = (f i).2.1 := by simp [wO, hi]
      have e3 : sO ((List.range len).map f) i = (f i).2.2.1 := by simp [sO, hi]
      have e4 : rO ((List.range len).map f) i = (f i).2.2.2 := by simp [rO, hi]
      unfold C4
      rw [e1, e2, e3, e4]
      exact ⟨h1, h2, h3, h4⟩
end Go.Proofs.Yteidipdjhkmgpaa.Lists
