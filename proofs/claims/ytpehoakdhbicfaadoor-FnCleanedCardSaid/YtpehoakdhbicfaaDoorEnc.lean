/- A rune that is read is written back as the bytes that it stood in; what Clean writes for each. -/
import Derived.Test.YtpehoakdhbicfaaDoorRu
import Derived.Lib.RuneBytes
import Derived.Lib.AppendStr
namespace Go.Proofs.YtpehoakdhbicfaaDoor.Ru
open Go.RowKit

theorem len_data (b : ByteArray) : b.data.toList.length = b.size := by
  rw [Array.length_toList]
  rfl
theorem ext_size (s : ByteArray) (p n : Nat) (h : p + n ≤ s.size) : (s.extract p (p + n)).size = n := by
  rw [ByteArray.size_extract]
  omega
theorem ext_at (s : ByteArray) (p n k : Nat) (h : p + n ≤ s.size) (hk : k < n) : (s.extract p (p + n))[k]'(by rw [ext_size s p n h]; exact hk) = s[p + k]'(by omega) := by
  rw [ByteArray.getElem_extract]
theorem ext_list (s : ByteArray) (p n k : Nat) (h : p + n ≤ s.size) (hk : k < n) : (s.extract p (p + n)).data.toList[k]? = some (s[p + k]'(by omega)) := by
  have hl : k < (s.extract p (p + n)).size := by rw [ext_size s p n h]; exact hk
  rw [List.getElem?_eq_getElem (by rw [len_data]; exact hl), ← ext_at s p n k h hk]
  simp [ByteArray.getElem_eq_getElem_data]
theorem ext_cells (s : ByteArray) (p n : Nat) (h : p + n ≤ s.size) : Lib.strCells (s.extract p (p + n)) = (List.range n).map fun i => Value.int .u8 (bt s (p + i) : Int) := by
  apply List.ext_getElem?
  intro k
  unfold Lib.strCells
  rw [List.getElem?_map, List.getElem?_map]
  by_cases hk : k < n
  · rw [ext_list s p n k h hk, List.getElem?_range hk]
    simp [bt_at]
  · rw [List.getElem?_eq_none (by rw [len_data, ext_size s p n h]; omega), List.getElem?_eq_none (by simp; omega)]
    rfl

theorem enc_of {s : ByteArray} {p : Nat} (hp : p < s.size) (hb : ¬ bad s p) : Lib.runeCells ((Utf8.decode s p).1 : Int) = Lib.strCells (s.extract p (p + wd s p)) := by
  have hw := wd_in s p hp
  rw [ext_cells s p _ hw.2.2]
  have hl := bt_lt s p
  by_cases c1 : bt s p < 128
  · have e := dec_one c1
    have ew : wd s p = 1 := by unfold wd; rw [e]
    rw [ew, e]
    unfold Lib.runeCells
    rw [Lib.encodeRuneZ_one (by show (0 : Int) ≤ (bt s p : Int); omega) (by show (bt s p : Int) ≤ 127; omega)]
    simp [List.range_succ]
  by_cases c2 : bt s p < 192 ∨ 248 ≤ bt s p
  · exact absurd (dec_none (by omega)) hb
  by_cases c3 : bt s p < 224
  · have M := many_two (s := s) (p := p) (by omega) c3
    by_cases hQ : okc s p (2 - 1) ∧ good 128 (acc s p (bt s p - 192) (2 - 1))
    · have e := M.dec.1 hQ
      have ew : wd s p = 2 := by unfold wd; rw [e]
      have g := hQ.2
      have ea : acc s p (bt s p - 192) (2 - 1) = (bt s p - 192) * 64 + bt s (p + 1) - 128 := rfl
      have hc : co s (p + 1) := hQ.1.2
      have hc2 := hc.2
      rw [ew, e]
      rw [ea] at g ⊢
      have g1 := g.1
      unfold Lib.runeCells
      rw [Lib.encodeRuneZ_two (by show (128 : Int) ≤ (((bt s p - 192) * 64 + bt s (p + 1) - 128 : Nat) : Int); omega) (by show (((bt s p - 192) * 64 + bt s (p + 1) - 128 : Nat) : Int) ≤ 2047; omega)]
      simp [List.range_succ]
      omega
    · exact absurd (M.dec.2 hQ) hb
  by_cases c4 : bt s p < 240
  · have M := many_three (s := s) (p := p) (by omega) c4
    by_cases hQ : okc s p (3 - 1) ∧ good 2048 (acc s p (bt s p - 224) (3 - 1))
    · have e := M.dec.1 hQ
      have ew : wd s p = 3 := by unfold wd; rw [e]
      have g := hQ.2
      have ea : acc s p (bt s p - 224) (3 - 1) = ((bt s p - 224) * 64 + bt s (p + 1) - 128) * 64 + bt s (p + 2) - 128 := rfl
      have hc : co s (p + 1) := hQ.1.1.2
      have hc2 := hc.2
      have hd : co s (p + 2) := hQ.1.2
      have hd2 := hd.2
      rw [ew, e]
      rw [ea] at g ⊢
      have g1 := g.1
      have g2 := g.2.2
      unfold Lib.runeCells
      rw [Lib.encodeRuneZ_three (by omega)]
      simp [List.range_succ]
      omega
    · exact absurd (M.dec.2 hQ) hb
  · have M := many_four (s := s) (p := p) (by omega) (by omega)
    by_cases hQ : okc s p (4 - 1) ∧ good 65536 (acc s p (bt s p - 240) (4 - 1))
    · have e := M.dec.1 hQ
      have ew : wd s p = 4 := by unfold wd; rw [e]
      have g := hQ.2
      have ea : acc s p (bt s p - 240) (4 - 1) = (((bt s p - 240) * 64 + bt s (p + 1) - 128) * 64 + bt s (p + 2) - 128) * 64 + bt s (p + 3) - 128 := rfl
      have hc : co s (p + 1) := hQ.1.1.1.2
      have hc2 := hc.2
      have hd : co s (p + 2) := hQ.1.1.2
      have hd2 := hd.2
      have hf : co s (p + 3) := hQ.1.2
      have hf2 := hf.2
      rw [ew, e]
      rw [ea] at g ⊢
      have g1 := g.1
      have g2 := g.2.1
      unfold Lib.runeCells
      rw [Lib.encodeRuneZ_four (by omega) (by omega)]
      simp [List.range_succ]
      omega
    · exact absurd (M.dec.2 hQ) hb
end Go.Proofs.YtpehoakdhbicfaaDoor.Ru
