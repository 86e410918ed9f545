/- The text of a request, plain; a part of it as the model tells it. -/
import Derived.Test.YtkegllbedejkgaaDoorDec
import Derived.Test.YtkegllbedejkgaaDoorWd
import Derived.Lib.Join
namespace Go.Proofs.YtkegllbedejkgaaDoor.Ix
open Go.ChangeShapes Go.WideShapes Go.ChangeAt Go.RowKit
/-- the texts' bytes -/
def tx (L : List ByteArray) : List (List UInt8) := L.map (·.data.toList)
theorem tx_len (L : List ByteArray) : (tx L).length = L.length := by simp [tx]
theorem join_snoc (X : List (List UInt8)) (x sep : List UInt8) : Lib.join (X ++ [x]) sep = if X = [] then x else Lib.join X sep ++ sep ++ x := by
  cases X with
  | nil => simp [Lib.join_one]
  | cons y r =>
    rw [if_neg (by simp), List.cons_append, Lib.join_cons, Lib.join_cons]
    simp [Lib.joinTail, List.append_assoc]
/-- the first k of a list, joined, with what stands ahead of them -/
def acc (wd : List UInt8) (L : List ByteArray) (k : Nat) : List UInt8 := wd ++ 61 :: Lib.join (tx (L.take k)) [47]
def part (wd : List UInt8) (L : List ByteArray) : List UInt8 := if L = [] then [] else acc wd L L.length
theorem take_snoc (L : List ByteArray) (k : Nat) (h : k < L.length) : L.take (k + 1) = L.take k ++ [L.getD k ⟨#[]⟩] := by
  rw [List.take_add_one]
  simp [List.getD_eq_getElem?_getD, h]
theorem acc_one (wd : List UInt8) (L : List ByteArray) (h : 0 < L.length) : acc wd L 1 = acc wd L 0 ++ (L.getD 0 ⟨#[]⟩).data.toList := by
  unfold acc
  rw [take_snoc L 0 h]
  simp [tx, Lib.join_nil, Lib.join_one]
theorem acc_succ (wd : List UInt8) (L : List ByteArray) (k : Nat) (h : k < L.length) (h0 : 0 < k) : acc wd L (k + 1) = acc wd L k ++ [47] ++ (L.getD k ⟨#[]⟩).data.toList := by
  unfold acc
  have e : tx (L.take k) ≠ [] := by
    intro e
    have h3 : (tx (L.take k)).length = 0 := by rw [e]; rfl
    rw [tx_len, List.length_take] at h3
    omega
  rw [take_snoc L k h]
  have e2 : tx (L.take k ++ [L.getD k ⟨#[]⟩]) = tx (L.take k) ++ [(L.getD k ⟨#[]⟩).data.toList] := by simp [tx]
  rw [e2, join_snoc, if_neg e]
  simp
theorem acc_len (wd : List UInt8) (L : List ByteArray) (h : ∀ i, i < L.length → (L.getD i ⟨#[]⟩).size ≤ 20) : ∀ k, k ≤ L.length → (acc wd L k).length ≤ wd.length + 1 + 21 * k
  | 0, _ => by
    unfold acc tx
    simp only [List.take_zero, List.map_nil, Lib.join_nil, List.length_append, List.length_cons, List.length_nil]
    omega
  | k + 1, hk => by
    have ih := acc_len wd L h k (by omega)
    have hs := h k (by omega)
    have e : (L.getD k ⟨#[]⟩).data.toList.length = (L.getD k ⟨#[]⟩).size := by rw [Array.length_toList]; rfl
    by_cases h0 : 0 < k
    · rw [acc_succ wd L k (by omega) h0]
      simp only [List.length_append, e, List.length_cons, List.length_nil]
      omega
    · have : k = 0 := by omega
      subst this
      rw [acc_one wd L (by omega)]
      simp only [List.length_append, e]
      omega
theorem cat2 (x : List UInt8) (y : ByteArray) : (⟨x.toArray⟩ : ByteArray) ++ y = ⟨(x ++ y.data.toList).toArray⟩ := by
  have := Dec.cat x y.data.toList
  simpa using this

set_option maxHeartbeats 1000000 in
theorem spart_any (wd : List UInt8) (v : Value) (L : List ByteArray) (w : World) (h : Reads w v L) (hw : wd.length ≤ 10) (hl : L.length ≤ 40) (hf : ∀ i, i < L.length → (L.getD i ⟨#[]⟩).size ≤ 20) :
    Calls Tryd.prog 13 #[.string ⟨wd.toArray⟩, v] w fun e w' => e = .returned (.string ⟨(part wd L).toArray⟩) ∧ w' = w := by
  obtain ⟨a, cap, rfl⟩ := h.form
  obtain ⟨n, hn⟩ : ∃ n, n = L.length := ⟨_, rfl⟩
  have HN : Hid (n = L.length) := hn
  have HC : Hid (∀ i, i < n → ∃ b o, a = some ⟨b, o, none⟩ ∧ w.cell? ⟨b, o + i, none⟩ = some (.string (L.getD i ⟨#[]⟩))) := fun i hi => (by
    rw [hn] at hi
    rcases h with ⟨rfl, _⟩ | ⟨b, o, c, e, _, _, x, y⟩
    · simp at hi
    · simp at e; exact ⟨b, o, e.1, y i hi⟩)
  have HL : Hid (∀ k, k ≤ n → (acc wd L k).length ≤ wd.length + 1 + 21 * k) := fun k hk => acc_len wd L hf k (by omega)
  have H1 : Hid (0 < n → acc wd L 1 = acc wd L 0 ++ (L.getD 0 ⟨#[]⟩).data.toList) := fun h0 => acc_one wd L (by omega)
  have H2 : Hid (∀ k, k < n → 0 < k → acc wd L (k + 1) = acc wd L k ++ [47] ++ (L.getD k ⟨#[]⟩).data.toList) := fun k hk h0 => acc_succ wd L k (by omega) h0
  have HS : Hid (∀ i, i < n → (L.getD i ⟨#[]⟩).size ≤ 20) := fun i hi => hf i (by omega)
  rw [← hn] at hl ⊢
  clear h hn hf
  by_cases h0 : n = 0
  · have eL : L = [] := List.eq_nil_of_length_eq_zero (by rw [← HN.out]; exact h0)
    subst h0
    go_enter Tryd.func13, Tryd.ntmps13
    go_wp2_with fail
    go_ret
    exact ⟨by rw [part, if_pos eL]; rfl, rfl⟩
  · have i0 : ¬ (n : Int) = 0 := by omega
    have EP : Hid (part wd L = acc wd L n) := (by
      show _ = _
      rw [part, if_neg, HN.out]
      intro e
      rw [e] at HN
      exact h0 HN.out)
    have E0 : (⟨wd.toArray⟩ : ByteArray) ++ ⟨#[61]⟩ = ⟨(acc wd L 0).toArray⟩ := (by
      rw [cat2]
      simp [acc, tx, Lib.join_nil])
    have hz : ¬ 9223372036854775807 < wd.length + 1 := by omega
    go_enter Tryd.func13, Tryd.ntmps13
    go_wp2_with fail
    clear hz
    go_loopw [5, 6] (fun s i wr => ∃ k : Nat, k ≤ n ∧ i = .int .i64 k ∧ s = .string ⟨(acc wd L k).toArray⟩ ∧ wr = w) (fun _ i _ => n - (intOf i).toNat)
    case atStart => exact ⟨0, Nat.zero_le _, rfl, rfl, rfl⟩
    case round =>
      clear E0
      obtain ⟨k, hk, rfl, rfl, hw'⟩ := hrel
      subst hw'
      by_cases hlt : k < n
      · obtain ⟨b, o, rfl, q0⟩ := HC.out k hlt
        have z0 : (0 : Int) ≤ (k : Int) := by omega
        have z1 : (k : Int) < (n : Int) := by omega
        have hs := HS.out k hlt
        have ha := HL.out k hk
        by_cases hp : 0 < k
        · have p0 : (0 : Int) < (k : Int) := by omega
          have NE : Hid (acc wd L (k + 1) = acc wd L k ++ [47] ++ (L.getD k ⟨#[]⟩).data.toList) := H2.out k hlt hp
          generalize L.getD k ⟨#[]⟩ = x at *
          generalize acc wd L k = A at *
          have s1 : ¬ 9223372036854775807 < A.length + 1 := by omega
          have s2 : ¬ 9223372036854775807 < (A ++ [47]).length + x.size := by simp; omega
          have c1 : (⟨A.toArray⟩ : ByteArray) ++ ⟨#[47]⟩ = ⟨(A ++ [47]).toArray⟩ := cat2 A ⟨#[47]⟩
          generalize hA : A ++ [47] = A1 at *
          go_wp2_with fail
          go_roundw
          case rel => exact ⟨k + 1, by omega, by go_num, by rw [NE.out, cat2], trivial⟩
          case measure => simp [intOf]; omega
        · have k0 : k = 0 := by omega
          subst k0
          simp only [Nat.add_zero] at q0
          have NE : Hid (acc wd L 1 = acc wd L 0 ++ (L.getD 0 ⟨#[]⟩).data.toList) := H1.out hlt
          generalize L.getD 0 ⟨#[]⟩ = x at *
          generalize acc wd L 0 = A at *
          have s2 : ¬ 9223372036854775807 < A.length + x.size := by omega
          go_wp2_with fail
          go_roundw
          case rel => exact ⟨1, by omega, by go_num, by rw [NE.out, cat2], trivial⟩
          case measure => simp [intOf]; omega
      · have hkn : k = n := by omega
        subst hkn
        have jj : ¬ (k : Int) < (k : Int) := by omega
        go_wp2_with fail
        go_ret
        exact ⟨by rw [EP.out]; rfl, rfl⟩
end Go.Proofs.YtkegllbedejkgaaDoor.Ix
