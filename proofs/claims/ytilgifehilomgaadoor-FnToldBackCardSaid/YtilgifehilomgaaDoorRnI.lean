/- The program's ReadNumber: what it calls. -/
import Derived.Test.YtilgifehilomgaaDoorRnS
import Derived.Test.YtilgifehilomgaaDoorLibC
namespace Go.Proofs.YtilgifehilomgaaDoor.Dec
open Go.ChangeShapes Go.WideShapes Go.ChangeAt Go.RowKit Flt

set_option maxHeartbeats 1000000 in
theorem cut21 (s : ByteArray) (w : World) (hs : s.size ≤ 1048576) :
    Calls Tryd.prog 39 #[.string s, .string ⟨#[46]⟩] w fun e w' => e = .returned (.tuple #[.string ⟨(Lib.cut s.data.toList [46]).1.toArray⟩, .string ⟨(Lib.cut s.data.toList [46]).2.1.toArray⟩, .bool (Lib.cut s.data.toList [46]).2.2]) ∧ ∃ n, w' = w.drewN n := by
  have IX := Tryd.stringslite_Index_one s 46 w
  rw [← Lib.index_one] at IX
  rcases Lib.indexB_cases s ⟨#[46]⟩ with hix | ⟨i, hix, hroom⟩
  · obtain ⟨e1, e2, e3⟩ := Lib.cutB_miss s ⟨#[46]⟩ hix
    have hix' : Lib.index s.data.toList [46] = -1 := hix
    rw [hix'] at IX
    have EQ : Hid ((Lib.cut s.data.toList [46]) = (s.data.toList, [], false)) := by
      show _ = _
      unfold Lib.cut
      rw [hix']; rfl
    clear hix hix' e1 e2 e3
    go_enter Tryd.func39, Tryd.ntmps39
    go_wp2_with fail
    refine IX.mono ?_
    rintro e wz ⟨rfl, hw⟩
    have hw' := hw.symm
    subst hw'
    clear hw IX
    go_wp2_with fail
    go_ret3
    rw [EQ.out]
    refine ⟨?_, 0, rfl⟩
    simp
  · have hix' : Lib.index s.data.toList [46] = (i : Int) := hix
    have hroom' : i + 1 ≤ s.size := hroom
    rw [hix'] at IX
    have EQ : Hid ((Lib.cut s.data.toList [46]) = (s.data.toList.take i, s.data.toList.drop (i + 1), true)) := by
      show _ = _
      unfold Lib.cut
      rw [hix', if_pos (by omega)]; rfl
    have c1 : (0 : Int) ≤ ↑i := by omega
    have c2 : (↑i : Int) ≤ ↑s.size := by omega
    have c3 : (0 : Int) ≤ ↑i + 1 := by omega
    have c4 : (↑i + 1 : Int) ≤ ↑s.size := by omega
    have x1 : s.extract 0 i = ⟨(s.data.toList.take i).toArray⟩ := ext_take s.data.toList i
    have x2 : s.extract (i + 1) s.size = ⟨(s.data.toList.drop (i + 1)).toArray⟩ := ext_drop s.data.toList (i + 1) s.size (by simp)
    have mixed := Tryd.lays220.mixed
    have hw1 : IntKind.i64.wrap ((i : Int) + 1) = (i : Int) + 1 := IntWalk.i64_in _ (by omega)
    clear hix hix' hroom
    go_enter Tryd.func39, Tryd.ntmps39
    go_wp2_with fail
    refine IX.mono ?_
    rintro e wz ⟨rfl, hw⟩
    have hw' := hw.symm
    subst hw'
    clear hw IX
    go_wp2_with fail
    go_region_o
    go_wp2_with fail
    go_ret3
    rw [EQ.out]
    refine ⟨?_, 1, rfl⟩
    simp

set_option maxHeartbeats 1000000 in
theorem cut13 (s : ByteArray) (w : World) (hs : s.size ≤ 1048576) :
    Calls Tryd.prog 26 #[.string s, .string ⟨#[46]⟩] w fun e w' => e = .returned (.tuple #[.string ⟨(Lib.cut s.data.toList [46]).1.toArray⟩, .string ⟨(Lib.cut s.data.toList [46]).2.1.toArray⟩, .bool (Lib.cut s.data.toList [46]).2.2]) ∧ ∃ n, w' = w.drewN n := by
  have C := cut21 s w hs
  generalize Lib.cut s.data.toList [46] = c at *
  go_enter Tryd.func26, Tryd.ntmps26
  go_wp2_with fail
  refine C.mono ?_
  rintro e wz ⟨rfl, n, hw⟩
  go_wp2_with fail
  go_ret3
  exact ⟨rfl, n, rfl⟩

theorem cut_len (l : List UInt8) : (Lib.cut l [46]).1.length ≤ l.length ∧ (Lib.cut l [46]).2.1.length ≤ l.length := by
  unfold Lib.cut
  split <;> simp <;> omega

set_option maxHeartbeats 1000000 in
theorem join2 (a b : List UInt8) (w : World) (h : a.length + b.length ≤ 4000000) :
    Calls Tryd.prog 28 #[.slice (some ⟨w.heap.size, 0, none⟩) 2 2] (w.alloc (.cells #[.string ⟨a.toArray⟩, .string ⟨b.toArray⟩] 9)) fun e w' => e = .returned (.string ⟨(a ++ b).toArray⟩) ∧ Below w.heap.size w w' := by
  have J := Tryd.strings_Join w.heap.size 0 2 [⟨a.toArray⟩, ⟨b.toArray⟩] ⟨#[]⟩ (w.alloc (.cells #[.string ⟨a.toArray⟩, .string ⟨b.toArray⟩] 9)) (by
    intro j x hj
    rcases (by have := (List.getElem?_eq_some_iff.1 hj).1; simp at this; omega : j = 0 ∨ j = 1) with rfl | rfl
    · simp at hj; subst hj; simp [go_sem]
    · simp at hj; subst hj; simp [go_sem]) (by simp) (by simp) (by simp) (by
      show (Lib.join [a, b] []).length ≤ _
      rw [join_none]; simp; omega)
  have e : Lib.join (List.map (·.data.toList) [(⟨a.toArray⟩ : ByteArray), ⟨b.toArray⟩]) (⟨#[]⟩ : ByteArray).data.toList = a ++ b := by
    show Lib.join [a, b] [] = _
    rw [join_none]; simp
  rw [e] at J
  clear e
  generalize a ++ b = ab at *
  go_enter Tryd.func28, Tryd.ntmps28
  go_wp2_with fail
  refine J.mono ?_
  rintro e w1 ⟨rfl, hb⟩
  go_wp2_with fail
  go_ret
  exact ⟨rfl, ((Below.refl _ _).alloc (Nat.le_refl _) _).trans (hb.mono (by simp))⟩

set_option maxHeartbeats 1000000 in
theorem within_any (z a b : Int) (w : World) : Calls Tryd.prog 18 #[.int .i64 z, .int .i64 a, .int .i64 b] w fun e w' => e = .returned (.bool (decide (a ≤ z) && decide (z ≤ b))) ∧ w' = w := by
  by_cases h1 : a ≤ z
  · by_cases h2 : z ≤ b
    · rw [decide_eq_true h1, decide_eq_true h2]
      go_enter Tryd.func18, Tryd.ntmps18
      go_wp2
      go_ret
      exact ⟨rfl, rfl⟩
    · rw [decide_eq_true h1, decide_eq_false h2]
      go_enter Tryd.func18, Tryd.ntmps18
      go_wp2
      go_ret
      exact ⟨rfl, rfl⟩
  · rw [decide_eq_false h1]
    go_enter Tryd.func18, Tryd.ntmps18
    go_wp2
    go_ret
    exact ⟨rfl, rfl⟩

theorem ip {T : World → Prop} (X : LibC T) (z : Int) (p : Nat) (w : World) (hT : T w) (hz : z.natAbs ≤ 1000000000000000) (hp : p ≤ 6) :
    Calls Tryd.prog 23 #[.int .i64 z, .int .i64 p] w fun e w' => e = .returned (.string ⟨(tz z p).toArray⟩) ∧ Below w.heap.size w w' := by
  unfold tz
  by_cases h : z < 0
  · rw [if_pos h]
    exact ipoint X z [45] z.natAbs p w hT (.inr ⟨by omega, by omega, rfl⟩) hz hp
  · rw [if_neg h]
    exact ipoint X z [] z.natAbs p w hT (.inl ⟨by omega, rfl⟩) hz hp

/-- what the cut and the parser say of a numeral -/
theorem cut_tz {z : Int} {p : Nat} {l : List UInt8} (hz : z.natAbs ≤ 1000000000000000) (h : tz z p = l) : (Lib.cut l [46]).2.1.length = p ∧ Lib.parseIntB 64 ((Lib.cut l [46]).1 ++ (Lib.cut l [46]).2.1) = .ok z := by
  obtain ⟨S, D, c⟩ := cutz z p
  obtain ⟨k, e, hk⟩ := c.cut
  rw [h] at e
  rw [e]
  refine ⟨hk, ?_⟩
  show Lib.parseIntB 64 (S ++ D.take k ++ D.drop k) = _
  rw [List.append_assoc, List.take_append_drop]
  exact parse_tz c.sign c.dig c.val c.some hz
end Go.Proofs.YtilgifehilomgaaDoor.Dec
