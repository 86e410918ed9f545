/- Bytes of whole numbers, plainly. -/
import Derived.Test.YtmopkbkdfipglaaFo
import Derived.Test.YtmopkbkdfipglaaSb
namespace Go.Proofs.Ytmopkbkdfipglaa.Lists
open Go.ChangeShapes Go.WideShapes Go.ChangeAt Go.RowKit
open Go.Proofs.Ytmopkbkdfipglaa.Bytes (bys)

theorem byt8_fin : ∀ n : Fin 256, byt (bts (n.val : Int) 8) = [(n.val : Int)] := by decide +kernel
theorem bts_mod (x : Int) : bts x 8 = bts (x % 256) 8 := by
  unfold bts btk
  refine List.map_congr_left fun i hi => ?_
  have hi8 : i < 8 := by simpa using hi
  unfold btA
  have e : ∀ s : Nat, s ≤ 7 → x / 2 ^ s % 2 = x % 256 / 2 ^ s % 2 := by
    intro s hs
    match s, hs with
    | 0, _ => simp
    | 1, _ => simp; omega
    | 2, _ => simp; omega
    | 3, _ => simp; omega
    | 4, _ => simp; omega
    | 5, _ => simp; omega
    | 6, _ => simp; omega
    | 7, _ => simp; omega
  exact e _ (by omega)
theorem byt8 (x : Int) : byt (bts x 8) = [x % 256] := by
  rw [bts_mod]
  obtain ⟨n, hn⟩ : ∃ n : Nat, x % 256 = (n : Int) := ⟨(x % 256).toNat, by omega⟩
  have h : n < 256 := by omega
  rw [hn]
  exact byt8_fin ⟨n, h⟩
theorem bts_split (x : Int) (a b : Nat) : bts x (a + b) = bts (x / 2 ^ b) a ++ bts x b := by
  unfold bts btk
  rw [List.range_add, List.map_append]
  congr 1
  · refine List.map_congr_left fun i hi => ?_
    have hi8 : i < a := by simpa using hi
    unfold btA
    rw [Int.ediv_ediv, if_neg (fun h => absurd h.1 (Int.not_lt.2 (Int.le_of_lt (Int.pow_pos (by omega))))), Int.sub_zero, ← Int.pow_add, show b + (a - 1 - i) = a + b - 1 - i by omega]
  · rw [List.map_map]
    refine List.map_congr_left fun i hi => ?_
    have hi8 : i < b := by simpa using hi
    show btA x (a + b) (a + i) = btA x b i
    unfold btA
    rw [show a + b - 1 - (a + i) = b - 1 - i by omega]
theorem byt16 (x : Int) : byt (bts x 16) = [x / 256 % 256, x % 256] := by
  rw [bts_split x 8 8, byt_app _ (by rw [btk_len]), byt8, byt8]
  rfl
theorem pk_zero (L : List Int) : byt (pkB L 0) = [(L.length : Int) / 256 % 256, (L.length : Int) % 256] := by rw [pkB_zero, byt16]
theorem pk_succ (L : List Int) (k : Nat) (h : k < ng L.length) : byt (pkB L (k + 1)) = byt (pkB L k) ++ byt (bts (mnL (gr L k) + 4398046511104) 48) ++ [(wdG (gr L k) : Int) % 256] ++ byt (cod1 (gr L k) (gr L k).length) := by
  rw [pkB_succ, grB, hd1, byt_app _ (pkB_mod L k h), byt_app _ (by rw [List.length_append, btk_len, btk_len]), byt_app _ (by rw [btk_len]), byt8, List.append_assoc, List.append_assoc, List.append_assoc]
theorem pkB_le {L : List Int} (h : Rg L) : ∀ k, k ≤ ng L.length → (pkB L k).length ≤ 16 + k * 1000
  | 0, _ => by rw [pkB_zero, btk_len]; omega
  | k + 1, hk => by
    have ih := pkB_le h k (by omega)
    have hl : (gr L k).length = min 16 (L.length - 16 * k) := gr_len L k
    have hg : gr L k ≠ [] := fun e => by rw [e] at hl; simp at hl; unfold ng at hk; omega
    have hw := wd_b h k hg
    have : (gr L k).length * wdG (gr L k) ≤ 16 * 43 := Nat.mul_le_mul (by omega) hw
    rw [pkB_succ, List.length_append, grB_len]
    omega
theorem gr_take_succ (L : List Int) (k j : Nat) (h : j < (gr L k).length) : (gr L k).take (j + 1) = (gr L k).take j ++ [(gr L k).getD j 0] := take_snoc _ _ h
/-- how far the model's search of a width has come -/
theorem wd_step (x w : Nat) (h : 0 < x / 2 ^ w) : w < wdN x := by
  rcases Nat.lt_or_ge w (wdN x) with q | q
  · exact q
  · exfalso
    have h1 := wdN_lt x
    have h2 := Nat.pow_le_pow_right (n := 2) (by omega) q
    have : x / 2 ^ w = 0 := Nat.div_eq_of_lt (by omega)
    omega
theorem wd_stop (x w : Nat) (h : x / 2 ^ w = 0) (hw : w ≤ wdN x) : w = wdN x := by
  have hp : 0 < 2 ^ w := Nat.pow_pos (by omega)
  have hx : x < 2 ^ w := (Nat.div_eq_zero_iff_lt hp).1 h
  rcases wdN_ge x with q | q
  · omega
  · rcases Nat.lt_or_ge w (wdN x) with r | r
    · exfalso
      have := Nat.pow_le_pow_right (n := 2) (by omega) (show w ≤ wdN x - 1 by omega)
      omega
    · omega
end Go.Proofs.Ytmopkbkdfipglaa.Lists
