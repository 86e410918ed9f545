/- Runes put together again, in the model. -/
import Derived.Test.YtljkbheefahgkaaDoorGoC
namespace Go.Proofs.YtljkbheefahgkaaDoor.Ru
open Go.ChangeShapes Go.WideShapes Go.ChangeAt Go.RowKit

theorem ext_dat (s : ByteArray) (f i : Nat) : (s.extract f i).data.toList = (s.data.toList.drop f).take (i - f) := Lib.extract_data s f i
theorem ext_join (s : ByteArray) (a b c : Nat) (h1 : a ≤ b) (h2 : b ≤ c) : (s.extract a c).data.toList = (s.extract a b).data.toList ++ (s.extract b c).data.toList := by
  rw [ext_dat, ext_dat, ext_dat]
  have : c - a = (b - a) + (c - b) := by omega
  rw [this, List.take_add, List.drop_drop, show a + (b - a) = b by omega]
theorem seg_join (s : ByteArray) (a b c : Nat) (h1 : a ≤ b) (h2 : b ≤ c) : (seg s a c).data.toList = (seg s a b).data.toList ++ (seg s b c).data.toList :=
  ext_join s _ _ _ (pos_up s h1) (pos_up s h2)
theorem seg_none (s : ByteArray) (a : Nat) : (seg s a a).data.toList = [] := by
  unfold seg
  rw [ext_dat]
  simp
theorem piece_seg (s : ByteArray) (k : Nat) : piece s k = .string (seg s k (k + 1)) := rfl
theorem seg_back (s : ByteArray) (a b : Nat) : (⟨(seg s a b).data.toList.toArray⟩ : ByteArray) = seg s a b := by simp

set_option maxHeartbeats 2000000 in
set_option maxRecDepth 1000000 in
theorem sjoined (s : ByteArray) (a : Option Addr) (A n cap : Nat) (w : World) (hs : s.size ≤ 20000) (hA : A + n ≤ cnt s)
    (h : n = 0 ∨ ∃ g o, a = some ⟨g, o, none⟩ ∧ g < w.heap.size ∧ ∀ j, j < n → w.cell? ⟨g, o + j, none⟩ = some (.string (seg s (A + j) (A + j + 1)))) :
    Calls Tryd.prog 8 #[.slice a n cap] w fun e w' => e = .returned (.string (seg s A (A + n))) ∧ Below w.heap.size w w' := by
  obtain ⟨i0, hi, hz0, hz1, hz2⟩ := info_parts Tryd.info5
  have cl := cnt_le s
  have R0 : Hid ((w.alloc (.cells #[] 5)).ownsRow w.heap.size 5 1 (.slice (some ⟨w.heap.size, 0, none⟩) 0 0) (seg s A (A + 0)).data.toList.length (Lib.byteCells (seg s A (A + 0)).data.toList)) := by
    show World.ownsRow _ _ _ _ _ _ _
    rw [Nat.add_zero, seg_none]
    exact empty_row 5 w _ (Nat.le_refl _)
  have HH : Hid (n = 0 ∨ ∃ g o, a = some ⟨g, o, none⟩ ∧ g < w.heap.size ∧ ∀ j, j < n → w.cell? ⟨g, o + j, none⟩ = some (.string (seg s (A + j) (A + j + 1)))) := h
  clear h
  go_enter Tryd.func8, Tryd.ntmps8
  go_wp2_with fail
  go_loopw [3, 4] (fun v x wr => ∃ i : Nat, i ≤ n ∧ x = .int .i64 (i : Nat) ∧ Hid (wr.ownsRow w.heap.size 5 1 v (seg s A (A + i)).data.toList.length (Lib.byteCells (seg s A (A + i)).data.toList)) ∧ Hid (Below w.heap.size w wr)) (fun _ x _ => (n - intOf x).toNat)
  case atStart => exact ⟨0, by omega, rfl, R0, (Below.refl _ _).alloc (Nat.le_refl _) _⟩
  case round =>
    obtain ⟨i, hin, rfl, R, BW⟩ := hrel
    obtain ⟨aa, cp, hv⟩ := row_form R.out
    subst hv
    by_cases hik : i < n
    · have hpa : ∃ g o, a = some ⟨g, o, none⟩ ∧ g < w.heap.size ∧ w.cell? ⟨g, o + i, none⟩ = some (.string (seg s (A + i) (A + i + 1))) := by
        rcases HH.out with h0 | ⟨g, o, h1, h2, h3⟩
        · omega
        · exact ⟨g, o, h1, h2, h3 i hik⟩
      obtain ⟨g, o, rfl, hg, hc⟩ := hpa
      rw [← BW.out.cell (p := ⟨g, o + i, none⟩) hg] at hc
      have HO : Hid ((seg s A (A + (i + 1))).data.toList = (seg s A (A + i)).data.toList ++ (seg s (A + i) (A + i + 1)).data.toList) := seg_join s A (A + i) (A + i + 1) (by omega) (by omega)
      have l1 := seg_le s A (A + i) (by omega)
      have l2 := seg_le s (A + i) (A + i + 1) (by omega)
      have l1' : (seg s A (A + i)).data.toList.length ≤ s.size := by simpa using l1
      have i0' : (0 : Int) ≤ (i : Int) := by omega
      have i1' : (i : Int) < (n : Int) := by omega
      have LZ : Hid (Lib.strCells (seg s (A + i) (A + i + 1)) = Lib.byteCells (seg s (A + i) (A + i + 1)).data.toList) := by
        show _ = _
        rw [← str_cells, seg_back]
      have lz : (seg s (A + i) (A + i + 1)).size = (seg s (A + i) (A + i + 1)).data.toList.length := by simp
      clear hg
      generalize seg s (A + i) (A + i + 1) = pc at *
      generalize (seg s A (A + i)).data.toList = dl at *
      go_wp2_with (at_builtin; refine Lib.wpList_append_own_string _ rfl _ _ 32 9 rfl w.heap.size 5 i0 Tryd.underlying32 Tryd.underlying9 hi hz0 hz1 hz2 _ _ _ rfl R.out pc rfl ?c1 ?c2 ?c3 ?_)
      case c1 => unfold maxLen; omega
      case c2 => omega
      case c3 => exact BW.out.size
      · intro v' w3 hown' hgrow _
        have R' : Hid (w3.ownsRow w.heap.size 5 1 v' (seg s A (A + (i + 1))).data.toList.length (Lib.byteCells (seg s A (A + (i + 1))).data.toList)) := by
          show World.ownsRow _ _ _ _ _ _ _
          rw [HO.out, Lib.byteCells_append, ← LZ.out, List.length_append, ← lz]
          exact hown'
        have B' : Hid (Below w.heap.size w w3) := BW.out.grown hgrow BW.out.size (fun b hb => (R.out.lt b hb).1)
        clear hown' hgrow R BW
        go_wp2_with fail
        go_roundw
        case rel => exact ⟨i + 1, by omega, by go_num, R', B'⟩
        case measure => simp [intOf]; omega
    · have ei : i = n := by omega
      subst ei
      have SB := seg_back s A (A + i)
      generalize (seg s A (A + i)).data.toList = l at R SB ⊢
      have HB : Hid ((⟨l.toArray⟩ : ByteArray) = seg s A (A + i)) := SB
      clear SB
      have CV : Hid (∀ w', w'.ownsRow w.heap.size 5 1 (.slice aa l.length cp) l.length (Lib.byteCells l) → (convert 32 9 (.slice aa l.length cp)).run Tryd.prog w' = .ok (.string ⟨l.toArray⟩) w') := fun w' h => conv_row h
      have cv := CV.out wr R.out
      clear CV
      go_wp2_with fail
      go_ret
      exact ⟨congrArg (fun x => Ending.returned (.string x)) HB.out, BW.out⟩
end Go.Proofs.YtljkbheefahgkaaDoor.Ru
