/- The least and the greatest of some whole numbers. -/
import Derived.Test.YtmopkbkdfipglaaKb
namespace Go.Proofs.Ytmopkbkdfipglaa.Lists
open Go.ChangeShapes Go.WideShapes Go.ChangeAt Go.RowKit

theorem Reads.opened {w : World} {v : Value} {L : List Int} (h : Lists.Reads w v L) : ∃ x cap b o, v = .slice x L.length cap ∧ (0 < L.length → x = some ⟨b, o, none⟩ ∧ b < w.heap.size) ∧ (∀ i, i < L.length → w.cell? ⟨b, o + i, none⟩ = some (.int .i64 (L.getD i 0))) ∧ L.length ≤ maxLen := by
  rcases h with ⟨rfl, a, cap, rfl⟩ | ⟨b, o, cap, rfl, h1, h2, h3, h4⟩
  · exact ⟨a, cap, 0, 0, rfl, fun h => absurd h (by simp), fun i hi => absurd hi (by simp), Nat.zero_le _⟩
  · exact ⟨_, cap, b, o, rfl, fun _ => ⟨rfl, h3⟩, h4, Nat.le_trans h1 h2⟩
theorem take_one (L : List Int) (k : Nat) (h : k < L.length) : L.take (k + 1) = L.take k ++ [L.getD k 0] := by
  rw [List.take_succ_eq_append_getElem h]
  simp [List.getD_eq_getElem?_getD, h]
theorem mem_at (L : List Int) (k : Nat) (h : k < L.length) : L.getD k 0 ∈ L := by simp [List.getD_eq_getElem?_getD, h]

def IsMin (m : Int) (L : List Int) : Prop := m ∈ L ∧ ∀ x ∈ L, m ≤ x
def IsMax (m : Int) (L : List Int) : Prop := m ∈ L ∧ ∀ x ∈ L, x ≤ m
theorem IsMin.same {a b : Int} {L : List Int} (h : IsMin a L) (g : IsMin b L) : a = b := by
  have := h.2 b g.1; have := g.2 a h.1; omega
theorem IsMax.same {a b : Int} {L : List Int} (h : IsMax a L) (g : IsMax b L) : a = b := by
  have := h.2 b g.1; have := g.2 a h.1; omega
theorem IsMin.more {m z : Int} {L : List Int} (h : IsMin m L) : IsMin (if z < m then z else m) (L ++ [z]) := by
  obtain ⟨h1, h2⟩ := h
  split
  · exact ⟨by simp, fun x hx => by simp at hx; rcases hx with hx | hx; · have := h2 x hx; omega
                                   · omega⟩
  · exact ⟨by simp [h1], fun x hx => by simp at hx; rcases hx with hx | hx; · exact h2 x hx
                                        · omega⟩
theorem IsMax.more {m z : Int} {L : List Int} (h : IsMax m L) : IsMax (if m < z then z else m) (L ++ [z]) := by
  obtain ⟨h1, h2⟩ := h
  split
  · exact ⟨by simp, fun x hx => by simp at hx; rcases hx with hx | hx; · have := h2 x hx; omega
                                   · omega⟩
  · exact ⟨by simp [h1], fun x hx => by simp at hx; rcases hx with hx | hx; · exact h2 x hx
                                        · omega⟩
theorem min_one (z : Int) : IsMin z [z] := ⟨by simp, fun x hx => by simp at hx; omega⟩
theorem max_one (z : Int) : IsMax z [z] := ⟨by simp, fun x hx => by simp at hx; omega⟩
theorem min_has : ∀ (L : List Int), L ≠ [] → ∃ m, IsMin m L
  | [], h => absurd rfl h
  | [a], _ => ⟨a, min_one a⟩
  | a :: b :: T, _ => by
    obtain ⟨m, h1, h2⟩ := min_has (b :: T) (by simp)
    by_cases c : a ≤ m
    · exact ⟨a, by simp, fun x hx => by
        rcases List.mem_cons.1 hx with rfl | hx
        · omega
        · have := h2 x hx; omega⟩
    · exact ⟨m, List.mem_cons_of_mem _ h1, fun x hx => by
        rcases List.mem_cons.1 hx with rfl | hx
        · omega
        · exact h2 x hx⟩
theorem max_has : ∀ (L : List Int), L ≠ [] → ∃ m, IsMax m L
  | [], h => absurd rfl h
  | [a], _ => ⟨a, max_one a⟩
  | a :: b :: T, _ => by
    obtain ⟨m, h1, h2⟩ := max_has (b :: T) (by simp)
    by_cases c : m ≤ a
    · exact ⟨a, by simp, fun x hx => by
        rcases List.mem_cons.1 hx with rfl | hx
        · omega
        · have := h2 x hx; omega⟩
    · exact ⟨m, List.mem_cons_of_mem _ h1, fun x hx => by
        rcases List.mem_cons.1 hx with rfl | hx
        · omega
        · exact h2 x hx⟩

set_option maxHeartbeats 1000000 in
theorem min_any (v : Value) (L : List Int) (m : Int) (w : World) (hR : Lists.Reads w v L) (hI : IsMin m L) :
    Calls Try.prog 65 #[v] w fun e w' => e = .returned (.int .i64 m) ∧ w' = w := by
  have h0 : 0 < L.length := List.length_pos_of_mem hI.1
  obtain ⟨x, cap, b, o, rfl, hx, hc, hm⟩ := Reads.opened hR
  obtain ⟨n, hn⟩ : ∃ n, n = L.length := ⟨_, rfl⟩
  have HN : Hid (n = L.length) := hn
  rw [← hn] at hx hc h0 hm ⊢
  obtain ⟨rfl, _⟩ := hx h0
  have HC : Hid (∀ i, i < n → w.cell? ⟨b, o + i, none⟩ = some (.int .i64 (L.getD i 0))) := hc
  have HI : Hid (IsMin m L) := hI
  have q0 : w.cell? ⟨b, o, none⟩ = some (.int .i64 (L.getD 0 0)) := hc 0 h0
  have T1 : Hid (IsMin (L.getD 0 0) (L.take 1)) := (by
    have := take_one L 0 (by omega)
    show IsMin _ _
    rw [this]; simpa using min_one _)
  unfold maxLen at hm
  have n1 : (1 : Int) ≤ (n : Int) := by omega
  have n2 : (0 : Int) < (n : Int) := by omega
  clear hc hR hn hI
  generalize L.getD 0 0 = z0 at *
  go_enter Try.func65, Try.ntmps65
  go_wp2_with fail
  trace_state
  go_loopw [3, 4] (fun a i wr => ∃ (k : Nat) (y : Int), 1 ≤ k ∧ k ≤ n ∧ i = .int .i64 k ∧ a = .int .i64 y ∧ wr = w ∧ Hid (IsMin y (L.take k))) (fun _ i _ => n - (intOf i).toNat)
  case atStart => exact ⟨1, z0, by omega, by omega, rfl, rfl, by first | rfl | trivial, T1⟩
  case round =>
    obtain ⟨k, y, k1, hk, rfl, rfl, rfl, HA⟩ := hrel
    by_cases hlt : k < n
    · have q1 := HC.out k hlt
      have i0 : (0 : Int) ≤ (k : Int) := by omega
      have i1 : (k : Int) < (n : Int) := by omega
      have TK : Hid (L.take (k + 1) = L.take k ++ [L.getD k 0]) := take_one L k (by rw [← HN.out]; exact hlt)
      generalize L.getD k 0 = z at *
      have HA' : Hid (IsMin (min y z) (L.take (k + 1))) := (by show IsMin _ _; rw [TK.out, show min y z = (if z < y then z else y) by split <;> omega]; exact HA.out.more)
      clear HA
      go_wp2_with fail
      go_roundw
      case rel => exact ⟨k + 1, min y z, by omega, by omega, by go_num, (by congr 1; split <;> omega), trivial, HA'⟩
      case measure => simp [intOf]; omega
    · have hkn : k = n := by omega
      subst hkn
      have HF : Hid (y = m) := (by
        show y = m
        have := HA.out
        rw [HN.out, List.take_length] at this
        exact this.same HI.out)
      go_wp2_with fail
      go_ret
      exact ⟨congrArg (fun x => Ending.returned (Value.int .i64 x)) HF.out, rfl⟩

set_option maxHeartbeats 1000000 in
theorem max_any (v : Value) (L : List Int) (m : Int) (w : World) (hR : Lists.Reads w v L) (hI : IsMax m L) :
    Calls Try.prog 67 #[v] w fun e w' => e = .returned (.int .i64 m) ∧ w' = w := by
  have h0 : 0 < L.length := List.length_pos_of_mem hI.1
  obtain ⟨x, cap, b, o, rfl, hx, hc, hm⟩ := Reads.opened hR
  obtain ⟨n, hn⟩ : ∃ n, n = L.length := ⟨_, rfl⟩
  have HN : Hid (n = L.length) := hn
  rw [← hn] at hx hc h0 hm ⊢
  obtain ⟨rfl, _⟩ := hx h0
  have HC : Hid (∀ i, i < n → w.cell? ⟨b, o + i, none⟩ = some (.int .i64 (L.getD i 0))) := hc
  have HI : Hid (IsMax m L) := hI
  have q0 : w.cell? ⟨b, o, none⟩ = some (.int .i64 (L.getD 0 0)) := hc 0 h0
  have T1 : Hid (IsMax (L.getD 0 0) (L.take 1)) := (by
    have := take_one L 0 (by omega)
    show IsMax _ _
    rw [this]; simpa using max_one _)
  unfold maxLen at hm
  have n1 : (1 : Int) ≤ (n : Int) := by omega
  have n2 : (0 : Int) < (n : Int) := by omega
  clear hc hR hn hI
  generalize L.getD 0 0 = z0 at *
  go_enter Try.func67, Try.ntmps67
  go_wp2_with fail
  trace_state
  go_loopw [3, 4] (fun a i wr => ∃ (k : Nat) (y : Int), 1 ≤ k ∧ k ≤ n ∧ i = .int .i64 k ∧ a = .int .i64 y ∧ wr = w ∧ Hid (IsMax y (L.take k))) (fun _ i _ => n - (intOf i).toNat)
  case atStart => exact ⟨1, z0, by omega, by omega, rfl, rfl, by first | rfl | trivial, T1⟩
  case round =>
    obtain ⟨k, y, k1, hk, rfl, rfl, rfl, HA⟩ := hrel
    by_cases hlt : k < n
    · have q1 := HC.out k hlt
      have i0 : (0 : Int) ≤ (k : Int) := by omega
      have i1 : (k : Int) < (n : Int) := by omega
      have TK : Hid (L.take (k + 1) = L.take k ++ [L.getD k 0]) := take_one L k (by rw [← HN.out]; exact hlt)
      generalize L.getD k 0 = z at *
      have HA' : Hid (IsMax (max y z) (L.take (k + 1))) := (by show IsMax _ _; rw [TK.out, show max y z = (if y < z then z else y) by split <;> omega]; exact HA.out.more)
      clear HA
      go_wp2_with fail
      go_roundw
      case rel => exact ⟨k + 1, max y z, by omega, by omega, by go_num, (by congr 1; split <;> omega), trivial, HA'⟩
      case measure => simp [intOf]; omega
    · have hkn : k = n := by omega
      subst hkn
      have HF : Hid (y = m) := (by
        show y = m
        have := HA.out
        rw [HN.out, List.take_length] at this
        exact this.same HI.out)
      go_wp2_with fail
      go_ret
      exact ⟨congrArg (fun x => Ending.returned (Value.int .i64 x)) HF.out, rfl⟩

end Go.Proofs.Ytmopkbkdfipglaa.Lists
