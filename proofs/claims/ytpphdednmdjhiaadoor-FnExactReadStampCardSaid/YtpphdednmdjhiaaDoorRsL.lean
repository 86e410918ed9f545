/- The law FnExactReadStamp walked, where the two tables are as the program lays them. -/
import Derived.Test.YtpphdednmdjhiaaDoorStampL
import Derived.Test.YtpphdednmdjhiaaDoorTimeLaw
import Derived.Test.YtpphdednmdjhiaaDoorRsS
namespace Go.Proofs.YtpphdednmdjhiaaDoor.Stamp
open Go.ChangeShapes Go.WideShapes Go.ChangeAt Go.RowKit Dates Fig

set_option maxHeartbeats 400000 in
theorem srs_no (s : ByteArray) (w : World) (h : s.size ≠ 17) : Calls Tryd.prog 7 #[.string s] w fun e w' => e = .returned (.tuple #[.int .i64 0, .bool false]) ∧ Below w.heap.size w w' := by
  have e17 : ((s.size : Int) != 17) = true := by simp; omega
  go_enter Tryd.func7, Tryd.ntmps7
  go_wp2
  go_ret2
  exact ⟨rfl, Below.refl _ _⟩
set_option maxHeartbeats 400000 in
theorem irs_no (s : ByteArray) (w : World) (h : s.size ≠ 17) : Calls Tryd.prog 8 #[.string s] w fun e w' => e = .returned (.tuple #[.int .i64 0, .bool false]) ∧ Below w.heap.size w w' := by
  have e17 : ((s.size : Int) != 17) = true := by simp; omega
  go_enter Tryd.func8, Tryd.ntmps8
  go_wp2
  go_ret2
  exact ⟨rfl, Below.refl _ _⟩

theorem read_both (s : ByteArray) : ∃ (v : Int) (B : Bool), (∀ w, Calls Tryd.prog 7 #[.string s] w fun e w' => e = .returned (.tuple #[.int .i64 v, .bool B]) ∧ Below w.heap.size w w') ∧
    (∀ w, Tb w → Calls Tryd.prog 8 #[.string s] w fun e w' => e = .returned (.tuple #[.int .i64 v, .bool B]) ∧ Below w.heap.size w w') := by
  by_cases h : s.size = 17
  · obtain ⟨v, B, T1, T2⟩ := bothTimes (fig (s.extract 0 4)) (fig (s.extract 5 7)) (fig (s.extract 8 10)) (fig (s.extract 11 13)) (fig (s.extract 14 16))
    obtain ⟨t, S1, S2⟩ := both v
    have r1 : ∀ w, _ := fun w => srs_any s v B t w h T1 S1
    have r2 : ∀ w, Tb w → _ := fun w (hT : Tb w) => irs_any s v B t w h Tb (fun w' hb => hT.keep _ _ hb) (fun w hw => T2 w hw.1) S2
    cases hc : (B && (t.toList == s.toList))
    · refine ⟨0, false, fun w => ?_, fun w hT => ?_⟩
      · have := r1 w; rw [hc] at this; exact this
      · have := r2 w hT; rw [hc] at this; exact this
    · refine ⟨v, true, fun w => ?_, fun w hT => ?_⟩
      · have := r1 w; rw [hc] at this; exact this
      · have := r2 w hT; rw [hc] at this; exact this
  · exact ⟨0, false, fun w => srs_no s w h, fun w _ => irs_no s w h⟩

set_option maxHeartbeats 1000000 in
theorem readLaw (s : ByteArray) (w : World) (hT : Tb w) : Calls Tryd.prog 4 #[.string s] w fun e w' => e = .returned (.bool true) ∧ Below w.heap.size w w' := by
  obtain ⟨v, B, S, I⟩ := read_both s
  have HS : Hid (∀ w, Calls Tryd.prog 7 #[.string s] w fun e w' => e = .returned (.tuple #[.int .i64 v, .bool B]) ∧ Below w.heap.size w w') := S
  have HI : Hid (∀ w, Tb w → Calls Tryd.prog 8 #[.string s] w fun e w' => e = .returned (.tuple #[.int .i64 v, .bool B]) ∧ Below w.heap.size w w') := I
  have HT : Hid (Tb w) := hT
  have hvv : (v != v) = false := by simp
  have hBB : (B != B) = false := by simp
  clear S I hT
  by_cases hl : s.size ≤ 1048576
  · have i1 : (s.size : Int) ≤ 1048576 := by omega
    go_enter Tryd.func4, Tryd.ntmps4
    go_wp2_with fail
    refine (HS.out _).mono ?_
    rintro e w1 ⟨rfl, hb1⟩
    have B1 : Hid (Below w.heap.size w w1) := hb1
    clear hb1
    go_wp2_with fail
    refine (HI.out _ (HT.out.keep _ _ B1.out)).mono ?_
    rintro e w2 ⟨rfl, hb2⟩
    have B2 : Hid (Below w.heap.size w w2) := B1.out.trans (hb2.mono B1.out.size)
    clear hb2
    go_wp2_with fail
    go_ret
    exact ⟨rfl, B2.out⟩
  · have i1 : (1048576 : Int) < (s.size : Int) := by omega
    go_enter Tryd.func4, Tryd.ntmps4
    go_wp2
    go_ret
    exact ⟨rfl, Below.refl _ _⟩
end Go.Proofs.YtpphdednmdjhiaaDoor.Stamp
