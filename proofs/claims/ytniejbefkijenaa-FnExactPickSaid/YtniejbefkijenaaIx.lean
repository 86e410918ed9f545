/- slices.Index, slices.Contains, asksFor, of numbers and of words. -/
import Derived.Test.YtniejbefkijenaaEo
import Derived.Test.YtniejbefkijenaaXoA
namespace Go.Proofs.Ytniejbefkijenaa.Ix
open Go.ChangeShapes Go.WideShapes Go.ChangeAt Go.RowKit
/-- a list of words in memory -/
def Reads (w : World) (v : Value) (L : List ByteArray) : Prop :=
  (L = [] ∧ ∃ a cap, v = .slice a 0 cap) ∨ ∃ b o cap, v = .slice (some ⟨b, o, none⟩) L.length cap ∧ L.length ≤ cap ∧ cap ≤ maxLen ∧ b < w.heap.size ∧ ∀ i, i < L.length → w.cell? ⟨b, o + i, none⟩ = some (.string (L.getD i ⟨#[]⟩))
theorem Reads.form {w : World} {v : Value} {L : List ByteArray} (h : Reads w v L) : ∃ a cap, v = .slice a L.length cap := by
  rcases h with ⟨rfl, a, cap, rfl⟩ | ⟨b, o, cap, rfl, _⟩
  · exact ⟨_, _, rfl⟩
  · exact ⟨_, _, rfl⟩
theorem Reads.on {w w' : World} {v : Value} {L : List ByteArray} (h : Reads w v L) (hb : Below w.heap.size w w') : Reads w' v L := by
  rcases h with h | ⟨b, o, cap, h1, h2, h3, h4, h5⟩
  · exact Or.inl h
  · exact Or.inr ⟨b, o, cap, h1, h2, h3, Nat.lt_of_lt_of_le h4 hb.size, fun i hi => (hb.cell (p := ⟨b, o + i, none⟩) h4).trans (h5 i hi)⟩
theorem Reads.fits {w : World} {v : Value} {L : List ByteArray} (h : Reads w v L) : L.length < 9223372036854775808 := by
  rcases h with ⟨rfl, _⟩ | ⟨b, o, c, _, h1, h2, _⟩
  · decide
  · unfold maxLen at h2; omega
def hasS (L : List ByteArray) (s : ByteArray) : Bool := L.any fun x => s.toList == x.toList
def hasI (L : List Int) (x : Int) : Bool := L.any fun y => x == y
theorem any_at {α : Type} (P : α → Bool) (L : List α) (d : α) (k : Nat) (hk : k < L.length) (h : P (L.getD k d) = true) : L.any P = true := by
  rw [List.any_eq_true]
  have e : L.getD k d = L[k] := by simp [List.getD_eq_getElem?_getD, hk]
  rw [e] at h
  exact ⟨_, List.getElem_mem hk, h⟩
theorem any_no {α : Type} (P : α → Bool) (L : List α) (d : α) (h : ∀ j, j < L.length → P (L.getD j d) = false) : L.any P = false := by
  rw [List.any_eq_false]
  intro x hx
  obtain ⟨j, hj, rfl⟩ := List.getElem_of_mem hx
  have := h j hj
  have e : L.getD j d = L[j] := by simp [List.getD_eq_getElem?_getD, hj]
  rw [e] at this
  simp [this]

set_option maxHeartbeats 2000000 in
theorem idxI_any (L : List Int) (v : Value) (x : Int) (w : World) (h : Lists.Reads w v L) (hn : L.length ≤ 2000000) : Calls Try.prog 70 #[v, .int .i64 x] w fun e w' => (∃ q : Int, e = .returned (.int .i64 q) ∧ decide (0 ≤ q) = hasI L x) ∧ w' = w := by
  obtain ⟨a, c, rfl⟩ := h.form
  obtain ⟨m, hm⟩ : ∃ m, m = L.length := ⟨_, rfl⟩
  have HM : Hid (m = L.length) := hm
  have HC : Hid (∀ i, i < m → ∃ b o, a = some ⟨b, o, none⟩ ∧ w.cell? ⟨b, o + i, none⟩ = some (.int .i64 (L.getD i 0))) := fun i hi => (by
    rw [HM.out] at hi
    rcases h with ⟨rfl, _⟩ | ⟨b, o, c, e, _, _, x, y⟩
    · simp at hi
    · simp at e; exact ⟨b, o, e.1, y i hi⟩)
  rw [← hm] at hn ⊢
  clear h hm
  go_enter Try.func70, Try.ntmps70
  go_wp2_with fail
  go_loopw [8] (fun i wr => ∃ k : Nat, k ≤ m ∧ i = .int .i64 k ∧ wr = w ∧ Hid (∀ j, j < k → (x == L.getD j 0) = false)) (fun i _ => m - (intOf i).toNat)
  case atStart => exact ⟨0, Nat.zero_le _, rfl, rfl, fun j hj => by omega⟩
  case round =>
    obtain ⟨k, hk, rfl, hw, NB⟩ := hrel
    subst hw
    by_cases hlt : k < m
    · obtain ⟨b, o, rfl, q0⟩ := HC.out k hlt
      have i0 : (0 : Int) ≤ (k : Int) := by omega
      have i1 : (k : Int) < (m : Int) := by omega
      have YY : Hid ((x == L.getD k 0) = true → hasI L x = true) := fun h => any_at (fun y => x == y) L 0 k (by rw [← HM.out]; exact hlt) h
      by_cases hy : x = L.getD k 0
      · have HY : Hid (hasI L x = true) := YY.out (by simpa using hy)
        rw [← hy] at q0
        clear hy YY NB HC
        go_wp2_with fail
        go_ret
        exact ⟨⟨k, rfl, by rw [HY.out]; simp⟩, rfl⟩
      · have NB' : Hid (∀ j, j < k + 1 → (x == L.getD j 0) = false) := fun j hj => by
          by_cases e : j = k
          · subst e; simpa using hy
          · exact NB.out j (by omega)
        have hy' : (x == L.getD k 0) = false := by simpa using hy
        clear NB YY
        generalize L.getD k 0 = y at *
        go_wp2_with fail
        go_roundw
        case rel => exact ⟨k + 1, by omega, by go_num, trivial, NB'⟩
        case measure => simp [intOf]; omega
    · have HN : Hid (hasI L x = false) := any_no (fun y => x == y) L 0 (fun j hj => NB.out j (by rw [← HM.out] at hj; omega))
      have j1 : ¬ (k : Int) < (m : Int) := by omega
      go_wp2_with fail
      go_ret
      exact ⟨⟨-1, rfl, by rw [HN.out]; simp⟩, rfl⟩
set_option maxHeartbeats 2000000 in
theorem hasI_any (L : List Int) (v : Value) (x : Int) (w : World) (h : Lists.Reads w v L) (hn : L.length ≤ 2000000) : Calls Try.prog 66 #[v, .int .i64 x] w fun e w' => e = .returned (.bool (hasI L x)) ∧ w' = w := by
  have C : Hid (Calls Try.prog 70 #[v, .int .i64 x] w fun e w' => (∃ q : Int, e = .returned (.int .i64 q) ∧ decide (0 ≤ q) = hasI L x) ∧ w' = w) := idxI_any L v x w h hn
  clear h hn
  go_enter Try.func66, Try.ntmps66
  go_wp2_with fail
  refine C.out.mono ?_
  rintro e w1 ⟨⟨q, rfl, hq⟩, hw⟩
  subst hw
  have HQ : Hid (decide (0 ≤ q) = hasI L x) := hq
  clear hq C
  go_wp2_with fail
  go_ret
  exact ⟨by rw [HQ.out]; rfl, rfl⟩
def askI (L : List Int) (x : Int) : Bool := decide (L.length = 0) || hasI L x
set_option maxHeartbeats 2000000 in
theorem askI_any (L : List Int) (v : Value) (x : Int) (w : World) (h : Lists.Reads w v L) (hn : L.length ≤ 2000000) : Calls Try.prog 49 #[v, .int .i64 x] w fun e w' => e = .returned (.bool (askI L x)) ∧ w' = w := by
  have C : Hid (Calls Try.prog 66 #[v, .int .i64 x] w fun e w' => e = .returned (.bool (hasI L x)) ∧ w' = w) := hasI_any L v x w h hn
  obtain ⟨a, c, rfl⟩ := h.form
  by_cases e0 : L.length = 0
  · have E : Hid (askI L x = true) := (by show _ = _; unfold askI; rw [e0]; rfl)
    rw [e0] at C ⊢
    clear h
    go_enter Try.func49, Try.ntmps49
    go_wp2_with fail
    go_ret
    exact ⟨by rw [E.out]; rfl, rfl⟩
  · have E : Hid (askI L x = hasI L x) := (by show _ = _; unfold askI; rw [decide_eq_false e0]; rfl)
    obtain ⟨m, hm⟩ : ∃ m, m = L.length := ⟨_, rfl⟩
    rw [← hm] at C e0 hn ⊢
    have j0 : ¬ (m : Int) = 0 := by omega
    have j1 : ((m : Int) == 0) = false := by simpa using j0
    generalize hasI L x = q at *
    clear h hm
    go_enter Try.func49, Try.ntmps49
    go_wp2_with fail
    refine C.out.mono ?_
    rintro e w1 ⟨rfl, hw⟩
    subst hw
    go_wp2_with fail
    go_ret
    exact ⟨by rw [E.out]; rfl, rfl⟩
set_option maxHeartbeats 2000000 in
theorem idxS_any (L : List ByteArray) (v : Value) (x : ByteArray) (w : World) (h : Reads w v L) (hn : L.length ≤ 2000000) : Calls Try.prog 69 #[v, .string x] w fun e w' => (∃ q : Int, e = .returned (.int .i64 q) ∧ decide (0 ≤ q) = hasS L x) ∧ w' = w := by
  obtain ⟨a, c, rfl⟩ := h.form
  obtain ⟨m, hm⟩ : ∃ m, m = L.length := ⟨_, rfl⟩
  have HM : Hid (m = L.length) := hm
  have HC : Hid (∀ i, i < m → ∃ b o, a = some ⟨b, o, none⟩ ∧ w.cell? ⟨b, o + i, none⟩ = some (.string (L.getD i ⟨#[]⟩))) := fun i hi => (by
    rw [HM.out] at hi
    rcases h with ⟨rfl, _⟩ | ⟨b, o, c, e, _, _, x, y⟩
    · simp at hi
    · simp at e; exact ⟨b, o, e.1, y i hi⟩)
  rw [← hm] at hn ⊢
  clear h hm
  go_enter Try.func69, Try.ntmps69
  go_wp2_with fail
  go_loopw [8] (fun i wr => ∃ k : Nat, k ≤ m ∧ i = .int .i64 k ∧ wr = w ∧ Hid (∀ j, j < k → (x.toList == (L.getD j ⟨#[]⟩).toList) = false)) (fun i _ => m - (intOf i).toNat)
  case atStart => exact ⟨0, Nat.zero_le _, rfl, rfl, fun j hj => by omega⟩
  case round =>
    obtain ⟨k, hk, rfl, hw, NB⟩ := hrel
    subst hw
    by_cases hlt : k < m
    · obtain ⟨b, o, rfl, q0⟩ := HC.out k hlt
      have i0 : (0 : Int) ≤ (k : Int) := by omega
      have i1 : (k : Int) < (m : Int) := by omega
      have YY : Hid ((x.toList == (L.getD k ⟨#[]⟩).toList) = true → hasS L x = true) := fun h => any_at (fun y : ByteArray => x.toList == y.toList) L ⟨#[]⟩ k (by rw [← HM.out]; exact hlt) h
      by_cases hy : (x.toList == (L.getD k ⟨#[]⟩).toList) = true
      · have HY : Hid (hasS L x = true) := YY.out hy
        clear YY NB HC
        generalize L.getD k ⟨#[]⟩ = y at *
        go_wp2_with fail
        go_ret
        exact ⟨⟨k, rfl, by rw [HY.out]; simp⟩, rfl⟩
      · have NB' : Hid (∀ j, j < k + 1 → (x.toList == (L.getD j ⟨#[]⟩).toList) = false) := fun j hj => by
          by_cases e : j = k
          · subst e; exact Bool.eq_false_iff.2 hy
          · exact NB.out j (by omega)
        have hy' : (x.toList == (L.getD k ⟨#[]⟩).toList) = false := Bool.eq_false_iff.2 hy
        clear NB YY
        generalize L.getD k ⟨#[]⟩ = y at *
        go_wp2_with fail
        go_roundw
        case rel => exact ⟨k + 1, by omega, by go_num, trivial, NB'⟩
        case measure => simp [intOf]; omega
    · have HN : Hid (hasS L x = false) := any_no (fun y : ByteArray => x.toList == y.toList) L ⟨#[]⟩ (fun j hj => NB.out j (by rw [← HM.out] at hj; omega))
      have j1 : ¬ (k : Int) < (m : Int) := by omega
      go_wp2_with fail
      go_ret
      exact ⟨⟨-1, rfl, by rw [HN.out]; simp⟩, rfl⟩
set_option maxHeartbeats 2000000 in
theorem hasS_any (L : List ByteArray) (v : Value) (x : ByteArray) (w : World) (h : Reads w v L) (hn : L.length ≤ 2000000) : Calls Try.prog 65 #[v, .string x] w fun e w' => e = .returned (.bool (hasS L x)) ∧ w' = w := by
  have C : Hid (Calls Try.prog 69 #[v, .string x] w fun e w' => (∃ q : Int, e = .returned (.int .i64 q) ∧ decide (0 ≤ q) = hasS L x) ∧ w' = w) := idxS_any L v x w h hn
  clear h hn
  go_enter Try.func65, Try.ntmps65
  go_wp2_with fail
  refine C.out.mono ?_
  rintro e w1 ⟨⟨q, rfl, hq⟩, hw⟩
  subst hw
  have HQ : Hid (decide (0 ≤ q) = hasS L x) := hq
  clear hq C
  go_wp2_with fail
  go_ret
  exact ⟨by rw [HQ.out]; rfl, rfl⟩
def askS (L : List ByteArray) (x : ByteArray) : Bool := decide (L.length = 0) || hasS L x
set_option maxHeartbeats 2000000 in
theorem askS_any (L : List ByteArray) (v : Value) (x : ByteArray) (w : World) (h : Reads w v L) (hn : L.length ≤ 2000000) : Calls Try.prog 48 #[v, .string x] w fun e w' => e = .returned (.bool (askS L x)) ∧ w' = w := by
  have C : Hid (Calls Try.prog 65 #[v, .string x] w fun e w' => e = .returned (.bool (hasS L x)) ∧ w' = w) := hasS_any L v x w h hn
  obtain ⟨a, c, rfl⟩ := h.form
  by_cases e0 : L.length = 0
  · have E : Hid (askS L x = true) := (by show _ = _; unfold askS; rw [e0]; rfl)
    rw [e0] at C ⊢
    clear h
    go_enter Try.func48, Try.ntmps48
    go_wp2_with fail
    go_ret
    exact ⟨by rw [E.out]; rfl, rfl⟩
  · have E : Hid (askS L x = hasS L x) := (by show _ = _; unfold askS; rw [decide_eq_false e0]; rfl)
    obtain ⟨m, hm⟩ : ∃ m, m = L.length := ⟨_, rfl⟩
    rw [← hm] at C e0 hn ⊢
    have j0 : ¬ (m : Int) = 0 := by omega
    have j1 : ((m : Int) == 0) = false := by simpa using j0
    generalize hasS L x = q at *
    clear h hm
    go_enter Try.func48, Try.ntmps48
    go_wp2_with fail
    refine C.out.mono ?_
    rintro e w1 ⟨rfl, hw⟩
    subst hw
    go_wp2_with fail
    go_ret
    exact ⟨by rw [E.out]; rfl, rfl⟩
end Go.Proofs.Ytniejbefkijenaa.Ix
