/- A title, plainly: a text cut at so many runes, the blanks behind it struck. -/
import Derived.Test.YtljkbheefahgkaaDoorGoJ
import Derived.Lib.TrimByte
namespace Go.Proofs.YtljkbheefahgkaaDoor.Ru
open Go.ChangeShapes Go.WideShapes Go.ChangeAt Go.RowKit

theorem dat_len (s : ByteArray) : s.data.toList.length = s.size := by rw [Array.length_toList]; rfl
def tr (s : ByteArray) : Nat → Nat
  | 0 => 0
  | k + 1 => if (seg s k (k + 1)).toList == [32] then tr s k else k + 1
theorem tr_le (s : ByteArray) (k : Nat) : tr s k ≤ k := by
  induction k with
  | zero => exact Nat.le_refl _
  | succ k ih =>
    unfold tr
    split
    · omega
    · exact Nat.le_refl _
theorem trim_snoc (l : List UInt8) (c : UInt8) : Lib.trimRightB (l ++ [c]) c = Lib.trimRightB l c := by
  unfold Lib.trimRightB
  simp
theorem trim_none (l : List UInt8) (x c : UInt8) (h : x ≠ c) : Lib.trimRightB (l ++ [x]) c = l ++ [x] := by
  unfold Lib.trimRightB
  simp [h]
theorem seg_last (s : ByteArray) (k : Nat) (hk : k + 1 ≤ cnt s) (h : (seg s k (k + 1)).toList ≠ [32]) : ∃ l x, (seg s k (k + 1)).data.toList = l ++ [x] ∧ x ≠ 32 := by
  have hp : pos s k < s.size := by
    have e := (cnt_ends s).2 k (by omega)
    exact e
  have hw := wd_in s (pos s k) hp
  have hn : pos s (k + 1) = pos s k + wd s (pos s k) := rfl
  have hd : (seg s k (k + 1)).data.toList = (s.data.toList.drop (pos s k)).take (wd s (pos s k)) := by
    unfold seg
    rw [ext_dat, hn]
    congr 1
    omega
  have hlen : (seg s k (k + 1)).data.toList.length = wd s (pos s k) := by
    rw [hd, List.length_take, List.length_drop]
    have := dat_len s
    omega
  have hne : (seg s k (k + 1)).data.toList ≠ [] := by
    intro e
    rw [e] at hlen
    simp at hlen
    omega
  refine ⟨(seg s k (k + 1)).data.toList.dropLast, (seg s k (k + 1)).data.toList.getLast hne, (List.dropLast_concat_getLast hne).symm, ?_⟩
  intro hx
  have hb : (seg s k (k + 1)).data.toList.getLast hne = s.get! (pos s k + (wd s (pos s k) - 1)) := by
    rw [List.getLast_eq_getElem]
    have i0 : wd s (pos s k) - 1 < (seg s k (k + 1)).data.toList.length := by omega
    have : (seg s k (k + 1)).data.toList[(seg s k (k + 1)).data.toList.length - 1]'(by omega) = (seg s k (k + 1)).data.toList[wd s (pos s k) - 1]'i0 := by
      congr 1
      omega
    rw [this]
    have e2 : (seg s k (k + 1)).data.toList[wd s (pos s k) - 1]? = s.data.toList[pos s k + (wd s (pos s k) - 1)]? := by
      rw [hd, List.getElem?_take_of_lt (by omega), List.getElem?_drop]
    have e3 : pos s k + (wd s (pos s k) - 1) < s.size := by omega
    have e4 : s.data.toList[pos s k + (wd s (pos s k) - 1)]? = some (s.get! (pos s k + (wd s (pos s k) - 1))) := by
      have hl : pos s k + (wd s (pos s k) - 1) < s.data.toList.length := by rw [dat_len]; exact e3
      rw [List.getElem?_eq_getElem hl]
      congr 1
      show _ = s.data[pos s k + (wd s (pos s k) - 1)]!
      rw [getElem!_pos s.data _ (show _ < s.data.size from e3)]
      simp
    rw [e4, List.getElem?_eq_getElem i0] at e2
    exact Option.some.inj e2
  by_cases hw1 : wd s (pos s k) = 1
  · apply h
    have : (seg s k (k + 1)).toList = (seg s k (k + 1)).data.toList := Lib.toList_data _
    rw [this]
    match hq : (seg s k (k + 1)).data.toList, hlen, hne, hx with
    | [y], _, _, hx => simp at hx; rw [hx]
    | [], _, hne, _ => exact absurd rfl hne
    | _ :: _ :: _, hl, _, _ => simp at hl; omega
  · rcases Nat.lt_or_ge (bt s (pos s k)) 128 with hl | hl
    · exact hw1 (narrow s (pos s k) hl).1
    · have := wide s (pos s k) hl (wd s (pos s k) - 1) (by omega)
      unfold bt at this
      rw [← hb, hx] at this
      simp at this
theorem tr_bytes (s : ByteArray) (k : Nat) (hk : k ≤ cnt s) : (seg s 0 (tr s k)).data.toList = Lib.trimRightB (seg s 0 k).data.toList 32 := by
  induction k with
  | zero =>
    show (seg s 0 0).data.toList = _
    rw [seg_none]
    rfl
  | succ k ih =>
    rw [seg_join s 0 k (k + 1) (Nat.zero_le _) (Nat.le_succ _)]
    unfold tr
    by_cases h : (seg s k (k + 1)).toList = [32]
    · rw [if_pos (by rw [h]; rfl), ih (by omega)]
      have e : (seg s k (k + 1)).data.toList = [32] := by rw [← Lib.toList_data]; exact h
      rw [e, trim_snoc]
    · rw [if_neg (by simpa using h)]
      obtain ⟨l, x, e, hx⟩ := seg_last s k hk h
      rw [e, ← List.append_assoc, trim_none _ _ _ hx, seg_join s 0 k (k + 1) (Nat.zero_le _) (Nat.le_succ _), e, List.append_assoc]
theorem seg_all (s : ByteArray) : (seg s 0 (cnt s)).data.toList = s.data.toList := by
  unfold seg
  rw [ext_dat, pos_cnt]
  show (s.data.toList.drop 0).take _ = _
  rw [List.drop_zero, List.take_of_length_le (by rw [dat_len]; exact Nat.le_refl _)]
/-- the title of a text -/
def ttl (s : ByteArray) (m : Nat) : List UInt8 := if m < cnt s then Lib.trimRightB (seg s 0 m).data.toList 32 ++ [226, 128, 166] else Lib.trimRightB s.data.toList 32
end Go.Proofs.YtljkbheefahgkaaDoor.Ru
