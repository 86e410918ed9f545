/- Whether a Packed is right, as the model tells it: plain. -/
import Derived.Test.YtgajajpcjbpalaaXoK
namespace Go.Proofs.Ytgajajpcjbpalaa.Pkd
open Go.ChangeShapes Go.WideShapes Go.ChangeAt Go.RowKit
open Go.Proofs.Ytgajajpcjbpalaa.Lists

def byts (T : List Int) : Prop := ∀ x ∈ T, 0 ≤ x ∧ x ≤ 255
def bitB (x : Int) : Bool := decide (x ≤ 1)

theorem ofNat_one (x : Int) (h0 : 0 ≤ x) (h1 : x ≤ 255) : (UInt8.ofNat x.toNat == 1) = decide (x = 1) ∧ (UInt8.ofNat x.toNat == 0) = decide (x = 0) := by
  obtain ⟨n, rfl⟩ : ∃ n : Nat, x = (n : Int) := ⟨x.toNat, by omega⟩
  have hn : n ≤ 255 := by omega
  have key : ∀ n : Fin 256, (UInt8.ofNat n.val == 1) = decide (n.val = 1) ∧ (UInt8.ofNat n.val == 0) = decide (n.val = 0) := by decide +kernel
  have k := key ⟨n, by omega⟩
  simp only [Int.toNat_natCast]
  simp only at k
  refine ⟨k.1.trans ?_, k.2.trans ?_⟩
  · rw [decide_eq_decide]; omega
  · rw [decide_eq_decide]; omega
theorem one_cons (x : Int) (T : List Int) (h0 : 0 ≤ x) (h1 : x ≤ 255) : one (x :: T) = one T + (if x = 1 then 1 else 0) ∧ nou (x :: T) = nou T + (if x = 0 then 1 else 0) := by
  obtain ⟨e1, e2⟩ := ofNat_one x h0 h1
  have b : Lib.bytesOf (x :: T) = UInt8.ofNat x.toNat :: Lib.bytesOf T := rfl
  unfold one nou Lib.countByte
  rw [b, List.count_cons, List.count_cons, e1, e2]
  simp
theorem ones (T : List Int) (hT : byts T) : (T.all bitB = true → (one T : Int) = T.sum ∧ one T + nou T = T.length) ∧ (T.all bitB = false → one T + nou T < T.length) ∧ one T + nou T ≤ T.length := by
  induction T with
  | nil => simp [one, nou, Lib.countByte, Lib.bytesOf]
  | cons x T ih =>
    obtain ⟨i1, i2, i3⟩ := ih (fun y hy => hT y (List.mem_cons_of_mem _ hy))
    obtain ⟨h0, h1⟩ := hT x List.mem_cons_self
    obtain ⟨o1, o2⟩ := one_cons x T h0 h1
    rw [o1, o2]
    simp only [List.all_cons, List.sum_cons, List.length_cons]
    by_cases c1 : x ≤ 1
    · have e : bitB x = true := by simp [bitB, c1]
      rw [e, Bool.true_and]
      rcases (by omega : x = 0 ∨ x = 1) with rfl | rfl
      · refine ⟨fun h => ?_, fun h => ?_, ?_⟩
        · obtain ⟨a, b⟩ := i1 h; simp; omega
        · have := i2 h; simp; omega
        · simp; omega
      · refine ⟨fun h => ?_, fun h => ?_, ?_⟩
        · obtain ⟨a, b⟩ := i1 h; simp; omega
        · have := i2 h; simp; omega
        · simp; omega
    · have e : bitB x = false := by simp [bitB]; omega
      rw [e, Bool.false_and, if_neg (by omega), if_neg (by omega)]
      refine ⟨fun h => by simp at h, fun _ => by omega, by omega⟩

theorem th_nil (cnt : Int) (nc : Nat) : thB cnt [] nc = decide ((nc : Int) = cnt) := by simp [thB]
theorem th_len (cnt : Int) (T : List Int) (nc : Nat) (h0 : T.length ≠ 0) (h : (T.length : Int) ≠ cnt) : thB cnt T nc = false := by
  unfold thB
  rw [if_neg h0]
  split
  · rfl
  · simp [h]
theorem th_big (cnt : Int) (T : List Int) (nc : Nat) (hT : byts T) (h0 : T.length ≠ 0) (h : T.all bitB = false) : thB cnt T nc = false := by
  have := (ones T hT).2.1 h
  unfold thB
  rw [if_neg h0, if_pos (Or.inl (by omega))]
theorem th_full (cnt : Int) (T : List Int) (nc : Nat) (hT : byts T) (h0 : T.length ≠ 0) (h : T.all bitB = true) (hl : (T.length : Int) = cnt) (hs : T.sum = cnt) : thB cnt T nc = false := by
  obtain ⟨a, b⟩ := (ones T hT).1 h
  unfold thB
  rw [if_neg h0, if_pos (Or.inr (by omega))]
theorem th_yes (cnt : Int) (T : List Int) (nc : Nat) (hT : byts T) (h0 : T.length ≠ 0) (h : T.all bitB = true) (hl : (T.length : Int) = cnt) (hs : T.sum ≠ cnt) : thB cnt T nc = decide ((nc : Int) = T.sum) := by
  obtain ⟨a, b⟩ := (ones T hT).1 h
  unfold thB
  rw [if_neg h0, if_neg (by omega)]
  rw [decide_eq_true hl, Bool.true_and, decide_eq_decide]
  omega
theorem sum_take (T : List Int) (k : Nat) (hk : k < T.length) : (T.take (k + 1)).sum = (T.take k).sum + T.getD k 0 := by
  rw [List.take_succ_eq_append_getElem hk, List.sum_append]
  simp [List.getD_eq_getElem?_getD, hk]
theorem sum_le (T : List Int) (hT : byts T) (h : T.all bitB = true) : 0 ≤ T.sum ∧ T.sum ≤ T.length := by
  obtain ⟨a, b⟩ := (ones T hT).1 h
  omega
theorem byts_take (T : List Int) (hT : byts T) (k : Nat) : byts (T.take k) := fun x hx => hT x (List.mem_of_mem_take hx)

theorem mst_w (b : Nat) (hb : b ≤ 24) : wrap64 (2 ^ b) = (2 : Int) ^ b ∧ wrap64 (wrap64 (2 ^ b) - 1) = (2 : Int) ^ b - 1 := by
  have key : ∀ b : Fin 25, wrap64 (2 ^ b.val) = (2 : Int) ^ b.val ∧ wrap64 (wrap64 (2 ^ b.val) - 1) = (2 : Int) ^ b.val - 1 := by decide +kernel
  exact key ⟨b, by omega⟩
theorem cok_iff (b d : Nat) (c : Int) (hb : b ≤ 24) : cok (mst b d) c = !(decide (c < 0) || decide ((2 : Int) ^ b ≤ c) || decide (4398046511104 / (2 : Int) ^ d < c)) := by
  obtain ⟨e1, e2⟩ := mst_w b hb
  unfold cok mst
  rw [e2]
  generalize (2 : Int) ^ b = B
  generalize 4398046511104 / (2 : Int) ^ d = D
  rw [Bool.eq_iff_iff]
  simp
  split <;> omega
end Go.Proofs.Ytgajajpcjbpalaa.Pkd
