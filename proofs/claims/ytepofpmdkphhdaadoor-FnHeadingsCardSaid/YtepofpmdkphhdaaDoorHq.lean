/- A heading's text, of both sides, told outright. -/
import Derived.Test.YtepofpmdkphhdaaDoorHp
import Derived.Test.YtepofpmdkphhdaaDoorRhW
namespace Go.Proofs.YtepofpmdkphhdaaDoor.Head
open Go.ChangeShapes Go.WideShapes Go.ChangeAt Go.RowKit Mk Fig Dec
theorem text_yes {K A : ByteArray} {n : Int} {C : ByteArray} {d h m : Int} {M : ByteArray} (hz : fault K A n C d h m M = 0) :
    (∀ w, Calls Tryd.prog 6 #[hd K A n C d h m M] w fun e w' => e = sb (htx K A n C d h m M) true ∧ Below w.heap.size w w') ∧ (∀ w, Tb w → Calls Tryd.prog 7 #[hd K A n C d h m M] w fun e w' => e = sb (htx K A n C d h m M) true ∧ Below w.heap.size w w') ∧ 1 ≤ (htx K A n C d h m M).length ∧ (htx K A n C d h m M).length ≤ 100 := by
  obtain ⟨f1, f2, ⟨f3, f4⟩, f5, ⟨f6, f7⟩, ⟨f8, f9⟩, ⟨f10, f11⟩, f12⟩ := fault_zero hz
  have hka : (K ++ A).size ≤ 1048576 := by rw [ByteArray.size_append]; omega
  have OK : ∀ w, Calls Tryd.prog 14 #[hd K A n C d h m M] w fun e w' => e = .returned (.bool true) ∧ Below w.heap.size w w' := fun w => by
    have := sok_any K A n C d h m M w hka
    rw [decide_eq_true hz] at this
    exact this
  have OI : ∀ w, Calls Tryd.prog 16 #[hd K A n C d h m M] w fun e w' => e = .returned (.int .i64 0) ∧ Below w.heap.size w w' := fun w => by
    have := ifault_any K A n C d h m M w (by omega) (by omega)
    rw [hz] at this
    exact this
  have qn := (q2_is n.toNat (by omega)).1
  have qd := (q2_is d.toNat (by omega)).1
  have qh := (q2_is h.toNat (by omega)).1
  have qm := (q2_is m.toNat (by omega)).1
  clear hz
  unfold htx
  obtain ⟨n', rfl⟩ : ∃ x : Nat, n = x := ⟨n.toNat, by omega⟩
  obtain ⟨d', rfl⟩ : ∃ x : Nat, d = x := ⟨d.toNat, by omega⟩
  obtain ⟨h', rfl⟩ : ∃ x : Nat, h = x := ⟨h.toNat, by omega⟩
  obtain ⟨m', rfl⟩ : ∃ x : Nat, m = x := ⟨m.toNat, by omega⟩
  simp only [Int.toNat_natCast] at qn qd qh qm ⊢
  have g1 := len_of K
  have g2 := len_of A
  have g3 := len_of C
  have g4 := len_of M
  rw [bytes_of K, bytes_of A, bytes_of C, bytes_of M] at OK OI
  have L : (front K.data.toList A.data.toList n' C.data.toList d' h' m').length = 18 := by
    unfold front; simp only [List.length_append, List.length_cons, List.length_nil]; omega
  have hc : ∀ w, hd K A n' C d' h' m' M = hd ⟨K.data.toList.toArray⟩ ⟨A.data.toList.toArray⟩ n' ⟨C.data.toList.toArray⟩ d' h' m' ⟨M.data.toList.toArray⟩ := fun _ : Unit => by simp
  refine ⟨fun w => ?_, fun w hT => ?_, ?_, ?_⟩
  · rw [hc ()]
    exact stext_yes K.data.toList A.data.toList n' C.data.toList d' h' m' M.data.toList w (by omega) (by omega) (by omega) (by omega) (by omega) (by omega) (by omega) (by omega) OK
  · rw [hc ()]
    exact itext_yes lib K.data.toList A.data.toList n' C.data.toList d' h' m' M.data.toList w hT (by omega) (by omega) (by omega) (by omega) (by omega) (by omega) (by omega) (by omega) OI
  · unfold text; split <;> (try simp only [List.length_append, List.length_cons, List.length_nil]) <;> omega
  · unfold text; split <;> (try simp only [List.length_append, List.length_cons, List.length_nil]) <;> omega
theorem text_no {K A : ByteArray} {n : Int} {C : ByteArray} {d h m : Int} {M : ByteArray} (hz : fault K A n C d h m M ≠ 0) (hk : K.size ≤ 4) (ha : A.size ≤ 4) :
    (∀ w, Calls Tryd.prog 6 #[hd K A n C d h m M] w fun e w' => e = sb [] false ∧ Below w.heap.size w w') ∧ (∀ w, Calls Tryd.prog 7 #[hd K A n C d h m M] w fun e w' => e = sb [] false ∧ Below w.heap.size w w') := by
  have hka : (K ++ A).size ≤ 1048576 := by rw [ByteArray.size_append]; omega
  refine ⟨fun w => stext_no K A n C d h m M w fun w => ?_, fun w => itext_no K A n C d h m M (fault K A n C d h m M) w hz fun w => ifault_any K A n C d h m M w (by omega) (by omega)⟩
  have := sok_any K A n C d h m M w hka
  rw [decide_eq_false hz] at this
  exact this
end Go.Proofs.YtepofpmdkphhdaaDoor.Head
