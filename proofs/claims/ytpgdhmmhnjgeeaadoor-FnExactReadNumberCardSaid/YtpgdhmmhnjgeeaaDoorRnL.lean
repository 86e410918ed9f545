/- The law FnExactReadNumber, walked. -/
import Derived.Test.YtpgdhmmhnjgeeaaDoorRnK
import Derived.Lib.LaidTab
namespace Go.Proofs.YtpgdhmmhnjgeeaaDoor.Dec
open Go.ChangeShapes Go.WideShapes Go.ChangeAt Go.RowKit Flt

def Tb (w : World) : Prop := Lib.TabIs Tryd.prog w "internal/strconv.uint64pow10" .u64 Lib.pow10Tab ∧ (∃ te pe, w.var? Tryd.prog "strconv.ErrSyntax" = some #[.iface te pe]) ∧ (∃ te pe, w.var? Tryd.prog "strconv.ErrRange" = some #[.iface te pe]) ∧ 4 < w.heap.size
theorem gP : Tryd.prog.globalNamed "internal/strconv.uint64pow10" = some 4 := by kernel_rfl
theorem gS : Tryd.prog.globalNamed "strconv.ErrSyntax" = some 2 := by kernel_rfl
theorem gR : Tryd.prog.globalNamed "strconv.ErrRange" = some 3 := by kernel_rfl
theorem Tb.keep (w w' : World) (h : Tb w) (hb : Below w.heap.size w w') : Tb w' := by
  obtain ⟨h1, ⟨te, pe, h2⟩, ⟨te', pe', h3⟩, h4⟩ := h
  exact ⟨var?_below hb gP h4 h1, ⟨te, pe, var?_below hb gS (by omega) h2⟩, ⟨te', pe', var?_below hb gR (by omega) h3⟩, Nat.lt_of_lt_of_le h4 hb.size⟩
theorem lib : LibC Tb := libC Tb Tb.keep (fun _ h => h.1)
theorem errs : Errs Tb where
  syn := fun w h => by
    obtain ⟨te, pe, h2⟩ := h.2.1
    exact ⟨te, pe, by have h0 := World.var?_cell gS h2 0; simpa using h0⟩
  rng := fun w h => by
    obtain ⟨te, pe, h2⟩ := h.2.2.1
    exact ⟨te, pe, by have h0 := World.var?_cell gR h2 0; simpa using h0⟩

/-- Both answer the same of every text. -/
theorem both (s : ByteArray) (hs : s.size ≤ 1048576) : ∃ V B, (∀ w, Calls Tryd.prog 4 #[.string s] w (fb V B w)) ∧ (∀ w, Tb w → Calls Tryd.prog 5 #[.string s] w (fb V B w)) := by
  cases h1 : (s.toList == [47])
  case true => exact ⟨qn, true, fun w => sread_none s w h1, fun w _ => iread_none s w h1⟩
  cases h2 : (s.toList == [104, 105, 103, 104])
  case true => exact ⟨pinf, true, fun w => sread_high s w h1 h2, fun w _ => iread_high s w h1 h2⟩
  cases h3 : (s.toList == [108, 111, 119])
  case true => exact ⟨ninf, true, fun w => sread_low s w h1 h2 h3, fun w _ => iread_low s w h1 h2 h3⟩
  obtain ⟨V, B, A⟩ := ans_ex s.data.toList
  by_cases hl : s.size ≤ 30
  · exact ⟨V, B, fun w => sread_any s w V B h1 h2 h3 hl A, fun w hT => iread_any lib errs s w hT hs V B h1 h2 h3 A⟩
  · obtain ⟨rfl, rfl⟩ := A.no (fun z p hz hp h => by
      have := tz_len z p hz hp
      rw [h] at this
      simp at this
      omega)
    exact ⟨0, false, fun w => sread_long s w (by omega) h1 h2 h3 (by omega), fun w hT => iread_any lib errs s w hT hs 0 false h1 h2 h3 A⟩

set_option maxHeartbeats 1000000 in
theorem law (s : ByteArray) (w : World) (hT : Tb w) : Calls Tryd.prog 3 #[.string s] w fun e w' => e = .returned (.bool true) ∧ Below w.heap.size w w' := by
  by_cases hs : s.size ≤ 1048576
  · obtain ⟨V, B, S, I⟩ := both s hs
    have HS : Hid (∀ w, Calls Tryd.prog 4 #[.string s] w (fb V B w)) := S
    have HI : Hid (∀ w, Tb w → Calls Tryd.prog 5 #[.string s] w (fb V B w)) := I
    have SF : Hid (∀ (x y : Nat) (w : World), cn x = cn y → Calls Tryd.prog 6 #[.float .f64 x, .float .f64 y] w fun e w' => e = .returned (.bool true) ∧ w' = w) := fun x y w h => sf_cn x y w h
    have HT : Hid (Tb w) := hT
    have i1 : ¬ (1048576 : Int) < (s.size : Int) := by omega
    have hbb : (B == B) = true := by simp
    have hbb' : (B != B) = false := by simp
    clear S I hT
    go_enter Tryd.func3, Tryd.ntmps3
    go_wp2_with fail
    refine (HS.out _).mono ?_
    rintro e w1 ⟨⟨x, rfl, hx⟩, hb1⟩
    have B1 : Hid (Below w.heap.size w w1) := hb1
    clear hb1
    go_wp2_with fail
    refine (HI.out _ (HT.out.keep _ _ B1.out)).mono ?_
    rintro e w2 ⟨⟨y, rfl, hy⟩, hb2⟩
    have B2 : Hid (Below w.heap.size w w2) := B1.out.trans (hb2.mono B1.out.size)
    clear hb2
    have SY : Hid (∀ w : World, Calls Tryd.prog 6 #[.float .f64 y, .float .f64 x] w fun e w' => e = .returned (.bool true) ∧ w' = w) := fun w => SF.out y x w (hy.trans hx.symm)
    clear hx hy
    go_wp2_with fail
    refine (SY.out _).mono ?_
    rintro e wz ⟨rfl, hw⟩
    have hw' := hw.symm
    subst hw'
    clear hw
    go_wp2_with fail
    all_goals
      go_ret
      exact ⟨rfl, B2.out⟩
  · have i1 : (1048576 : Int) < (s.size : Int) := by omega
    go_enter Tryd.func3, Tryd.ntmps3
    go_wp2_with fail
    go_ret
    exact ⟨rfl, Below.refl _ _⟩
end Go.Proofs.YtpgdhmmhnjgeeaaDoor.Dec
