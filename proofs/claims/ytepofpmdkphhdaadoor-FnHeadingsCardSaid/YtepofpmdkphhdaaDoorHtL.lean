/- The law FnExactHeadingText walked, where the table of powers is as the library lays it. -/
import Derived.Test.YtepofpmdkphhdaaDoorHtI
import Derived.Test.YtepofpmdkphhdaaDoorLibC
import Derived.Lib.LaidTab
namespace Go.Proofs.YtepofpmdkphhdaaDoor.Head
open Go.ChangeShapes Go.WideShapes Go.ChangeAt Go.RowKit Mk Fig Dec

def Tb (w : World) : Prop := Lib.TabIs Tryd.prog w "internal/strconv.uint64pow10" .u64 Lib.pow10Tab ∧ 0 < w.heap.size
theorem gP : Tryd.prog.globalNamed "internal/strconv.uint64pow10" = some 0 := by kernel_rfl
theorem Tb.keep (w w' : World) (h : Tb w) (hb : Below w.heap.size w w') : Tb w' :=
  ⟨var?_below hb gP h.2 h.1, Nat.lt_of_lt_of_le h.2 hb.size⟩
theorem lib : LibC Tb := libC Tb Tb.keep (fun _ h => h.1)

theorem mark_short (M : ByteArray) (h : 0 ≤ (markOf M).1) : M.size ≤ 3 := by
  by_cases h0 : M.size = 0
  · omega
  · by_cases h3 : M.size = 3
    · omega
    · exfalso
      have E : markOf M = (-1, 0) := by unfold markOf mkOf; rw [if_neg h0, if_pos h3]
      rw [E] at h
      simp at h
theorem bytes_of (s : ByteArray) : s = ⟨s.data.toList.toArray⟩ := by
  apply WideShapes.bytes_inj; simp
theorem len_of (s : ByteArray) : s.data.toList.length = s.size := by simp

set_option maxHeartbeats 400000 in
theorem stext_no (K A : ByteArray) (n : Int) (C : ByteArray) (d h m : Int) (M : ByteArray) (w : World)
    (hok : ∀ w, Calls Tryd.prog 14 #[hd K A n C d h m M] w fun e w' => e = .returned (.bool false) ∧ Below w.heap.size w w') :
    Calls Tryd.prog 6 #[hd K A n C d h m M] w fun e w' => e = sb [] false ∧ Below w.heap.size w w' := by
  have HO : Hid _ := hok
  clear hok
  go_enter Tryd.func6, Tryd.ntmps6
  go_wp2_with fail
  refine (HO.out _).mono ?_
  rintro e w1 ⟨rfl, hb1⟩
  have B1 : Hid (Below w.heap.size w w1) := ((Below.refl _ _).alloc (Nat.le_refl _) _).trans (hb1.mono (by simp))
  clear hb1
  go_wp2_with fail
  go_ret2
  exact ⟨rfl, B1.out⟩
set_option maxHeartbeats 400000 in
theorem itext_no (K A : ByteArray) (n : Int) (C : ByteArray) (d h m : Int) (M : ByteArray) (f : Int) (w : World) (hf : f ≠ 0)
    (hok : ∀ w, Calls Tryd.prog 16 #[hd K A n C d h m M] w fun e w' => e = .returned (.int .i64 f) ∧ Below w.heap.size w w') :
    Calls Tryd.prog 7 #[hd K A n C d h m M] w fun e w' => e = sb [] false ∧ Below w.heap.size w w' := by
  have HO : Hid _ := hok
  have hf' : (f != 0) = true := by simpa using hf
  clear hok
  go_enter Tryd.func7, Tryd.ntmps7
  go_wp2_with fail
  refine (HO.out _).mono ?_
  rintro e w1 ⟨rfl, hb1⟩
  have B1 : Hid (Below w.heap.size w w1) := ((Below.refl _ _).alloc (Nat.le_refl _) _).trans (hb1.mono (by simp))
  clear hb1
  go_wp2_with fail
  go_ret2
  exact ⟨rfl, B1.out⟩

theorem fault_zero {K A : ByteArray} {n : Int} {C : ByteArray} {d h m : Int} {M : ByteArray} (hz : fault K A n C d h m M = 0) :
    K.size = 2 ∧ A.size = 2 ∧ (0 ≤ n ∧ n ≤ 99) ∧ C.size = 4 ∧ (1 ≤ d ∧ d ≤ 31) ∧ (0 ≤ h ∧ h ≤ 23) ∧ (0 ≤ m ∧ m ≤ 59) ∧ M.size ≤ 3 := by
  unfold fault at hz
  split at hz
  · exact absurd hz (by decide)
  · rename_i c1
    split at hz
    · exact absurd hz (by decide)
    · rename_i c2
      split at hz
      · exact absurd hz (by decide)
      · rename_i c3
        split at hz
        · exact absurd hz (by decide)
        · rename_i c4
          simp [two, wi] at c1 c3
          simp [cen] at c2
          exact ⟨c1.1.1.2, c1.1.2.2, c1.2, c2.1, c3.1.1, c3.1.2, c3.2, mark_short M (by omega)⟩

/-- What both say of a heading. -/
theorem both (K A : ByteArray) (n : Int) (C : ByteArray) (d h m : Int) (M : ByteArray) (hk : K.size ≤ 1048576) (ha : A.size ≤ 1048576) (hka : (K ++ A).size ≤ 1048576) : ∃ (r : List UInt8) (b : Bool),
    (∀ w, Calls Tryd.prog 6 #[hd K A n C d h m M] w fun e w' => e = sb r b ∧ Below w.heap.size w w') ∧ (∀ w, Tb w → Calls Tryd.prog 7 #[hd K A n C d h m M] w fun e w' => e = sb r b ∧ Below w.heap.size w w') := by
  by_cases hz : fault K A n C d h m M = 0
  · obtain ⟨f1, f2, ⟨f3, f4⟩, f5, ⟨f6, f7⟩, ⟨f8, f9⟩, ⟨f10, f11⟩, f12⟩ := fault_zero hz
    have OK : ∀ w, Calls Tryd.prog 14 #[hd K A n C d h m M] w fun e w' => e = .returned (.bool true) ∧ Below w.heap.size w w' := fun w => by
      have := sok_any K A n C d h m M w hka
      rw [decide_eq_true hz] at this
      exact this
    have OI : ∀ w, Calls Tryd.prog 16 #[hd K A n C d h m M] w fun e w' => e = .returned (.int .i64 0) ∧ Below w.heap.size w w' := fun w => by
      have := ifault_any K A n C d h m M w hk ha
      rw [hz] at this
      exact this
    obtain ⟨n', rfl⟩ : ∃ x : Nat, n = x := ⟨n.toNat, by omega⟩
    obtain ⟨d', rfl⟩ : ∃ x : Nat, d = x := ⟨d.toNat, by omega⟩
    obtain ⟨h', rfl⟩ : ∃ x : Nat, h = x := ⟨h.toNat, by omega⟩
    obtain ⟨m', rfl⟩ : ∃ x : Nat, m = x := ⟨m.toNat, by omega⟩
    clear hz
    rw [bytes_of K, bytes_of A, bytes_of C, bytes_of M] at OK OI ⊢
    have g1 := len_of K
    have g2 := len_of A
    have g3 := len_of C
    have g4 := len_of M
    generalize K.data.toList = LK at *
    generalize A.data.toList = LA at *
    generalize C.data.toList = LC at *
    generalize M.data.toList = LM at *
    exact ⟨text LK LA n' LC d' h' m' LM, true, fun w => stext_yes LK LA n' LC d' h' m' LM w (by omega) (by omega) (by omega) (by omega) (by omega) (by omega) (by omega) (by omega) OK,
      fun w hT => itext_yes lib LK LA n' LC d' h' m' LM w hT (by omega) (by omega) (by omega) (by omega) (by omega) (by omega) (by omega) (by omega) OI⟩
  · refine ⟨[], false, fun w => stext_no K A n C d h m M w fun w => ?_, fun w _ => itext_no K A n C d h m M (fault K A n C d h m M) w hz fun w => ifault_any K A n C d h m M w hk ha⟩
    have := sok_any K A n C d h m M w hka
    rw [decide_eq_false hz] at this
    exact this

def sz (K A C M : ByteArray) : Int := if (1048576 : Int) - K.size < 0 then -1 else if (1048576 : Int) - K.size - A.size < 0 then -1 else if (1048576 : Int) - K.size - A.size - C.size < 0 then -1 else if (1048576 : Int) - K.size - A.size - C.size - M.size < 0 then -1 else (1048576 : Int) - K.size - A.size - C.size - M.size
theorem sz_pos {K A C M : ByteArray} (h : 0 ≤ sz K A C M) : K.size + A.size + C.size + M.size ≤ 1048576 := by
  unfold sz at h
  split at h
  · omega
  · split at h
    · omega
    · split at h
      · omega
      · split at h
        · omega
        · omega

end Go.Proofs.YtepofpmdkphhdaaDoor.Head
