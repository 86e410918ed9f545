/- Up to forty words put together, in the model; a change's kind and text, in the program. -/
import Derived.Test.YtoaabdmbgemkjaaGreatDoorTw
import Derived.OwnWalk
import Derived.WalkSmall
namespace Go.Proofs.YtoaabdmbgemkjaaGreatDoor.Tx
open Go.ChangeShapes Go.WideShapes Go.ChangeAt Go.RowKit Dates Dec Kt
theorem join_len2 (L : List (List UInt8)) (h : ∀ x ∈ L, x.length ≤ 100) : (Lib.join L [32]).length ≤ 101 * L.length := by
  unfold Lib.join
  induction L with
  | nil => simp [List.intercalate]
  | cons y r ih =>
    have hy := h y (by simp)
    cases r with
    | nil => simp [List.intercalate]; omega
    | cons z s =>
      have := ih (fun x hx => h x (by simp at hx ⊢; exact .inr hx))
      simp [List.intercalate, List.intersperse] at this ⊢
      omega
set_option maxHeartbeats 1000000 in
theorem words_many (L : List (List UInt8)) (a : Option Addr) (cap : Nat) (w : World) (h4 : L.length ≤ 40) (h20 : ∀ x ∈ L, x.length ≤ 100)
    (h : L.length = 0 ∨ ∃ g, a = some ⟨g, 0, none⟩ ∧ g < w.heap.size ∧ ∀ j, j < L.length → w.cell? ⟨g, j, none⟩ = some (.string ⟨(L.getD j []).toArray⟩)) :
    Calls Tryz.prog 15 #[.slice a L.length cap] w fun e w' => e = .returned (.string ⟨(Lib.join L [32]).toArray⟩) ∧ w' = w := by
  rcases h with h | ⟨g, rfl, hg, hc⟩
  · have e : L = [] := List.eq_nil_of_length_eq_zero h
    subst e
    go_enter Tryz.func15, Tryz.ntmps15
    go_wp2
    go_loop [3, 4] (fun s i => s = .string ⟨#[]⟩ ∧ i = .int .i64 0) (fun _ _ => 0)
    case atStart => exact ⟨rfl, rfl⟩
    case round =>
      obtain ⟨rfl, rfl⟩ := hrel
      go_wp2
      go_ret
      exact ⟨rfl, rfl⟩
  · have HC : Hid (∀ j, j < L.length → w.cell? ⟨g, j, none⟩ = some (.string ⟨(L.getD j []).toArray⟩)) := hc
    have JL : Hid (∀ k, (Lib.join (L.take k) [32]).length ≤ 4040) := fun k => by
      have := join_len2 (L.take k) (fun x hx => h20 x (List.mem_of_mem_take hx))
      have := List.length_take_le' k L
      omega
    have EL : Hid (∀ k, k < L.length → (L.getD k []).length ≤ 100) := fun k hk => h20 _ (by simp [List.getD_eq_getElem?_getD, List.getElem?_eq_getElem hk])
    have SN : Hid (∀ k, k < L.length → Lib.join (L.take (k + 1)) [32] = if k = 0 then L.getD 0 [] else Lib.join (L.take k) [32] ++ [32] ++ L.getD k []) := fun k hk => by
      have e : L.take (k + 1) = L.take k ++ [L.getD k []] := by
        rw [List.take_succ_eq_append_getElem hk]
        simp [List.getD_eq_getElem?_getD, List.getElem?_eq_getElem hk]
      rw [e]
      by_cases h0 : k = 0
      · subst h0
        rw [if_pos rfl, List.take_zero, List.nil_append, join_one]
      · rw [if_neg h0]
        exact join_snoc _ _ (fun q => by rcases List.take_eq_nil_iff.1 q with z | z; exact h0 z; rw [z] at hk; simp at hk)
    have LA : Hid (Lib.join (L.take L.length) [32] = Lib.join L [32]) := (by show _ = _; rw [List.take_length])
    obtain ⟨n, hn⟩ : ∃ n, n = L.length := ⟨_, rfl⟩
    rw [← hn] at HC EL SN h4 LA ⊢
    clear hc h20 hn
    go_enter Tryz.func15, Tryz.ntmps15
    go_wp2
    go_loop [3, 4] (fun s i => ∃ k : Nat, k ≤ n ∧ i = .int .i64 k ∧ s = .string ⟨(Lib.join (L.take k) [32]).toArray⟩) (fun _ i => n - (intOf i).toNat)
    case atStart => exact ⟨0, Nat.zero_le _, rfl, rfl⟩
    case round =>
      obtain ⟨k, hk, rfl, rfl⟩ := hrel
      by_cases hlt : k < n
      · have q := HC.out k hlt
        have i0 : (0 : Int) ≤ (k : Int) := by omega
        have i1 : (k : Int) < (n : Int) := by omega
        have jl := JL.out k
        have el := EL.out k hlt
        have sn := SN.out k hlt
        by_cases h0 : k = 0
        · subst h0
          rw [if_pos rfl] at sn
          have S0 : Hid (Lib.join (L.take (0 + 1)) [32] = L.getD 0 []) := sn
          clear sn
          generalize L.getD 0 [] = x at *
          have e0 : Lib.join (L.take 0) [32] = [] := rfl
          rw [e0]
          have u0 : ¬ 9223372036854775807 < x.length := by omega
          go_wp2_with fail
          go_round
          case rel => exact ⟨1, by omega, by go_num, by rw [S0.out]; exact congrArg Value.string (cat [] x)⟩
          case measure => simp [intOf]; omega
        · rw [if_neg h0] at sn
          have S0 : Hid (Lib.join (L.take (k + 1)) [32] = Lib.join (L.take k) [32] ++ [32] ++ L.getD k []) := sn
          clear sn
          generalize L.getD k [] = x at *
          generalize Lib.join (L.take k) [32] = y at *
          have k0 : (0 : Int) < (k : Int) := by omega
          have u0 : ¬ 9223372036854775807 < y.length + 1 := by omega
          have u1 : ¬ 9223372036854775807 < y.length + 1 + x.length := by omega
          go_wp2_with fail
          go_round
          case rel => exact ⟨k + 1, by omega, by go_num, by rw [S0.out]; exact congrArg Value.string ((congrArg (· ++ (⟨x.toArray⟩ : ByteArray)) (cat y [32])).trans (cat (y ++ [32]) x))⟩
          case measure => simp [intOf]; omega
      · have e : k = n := by omega
        subst e
        rw [LA.out]
        go_wp2
        go_ret
        exact ⟨rfl, rfl⟩

/-- a kind's word -/
def kw (k : Int) : List UInt8 := if (k == 2) = true then [66, 69, 67, 77, 71] else if (k == 3) = true then [84, 69, 77, 80, 79] else if (k == 4) = true then [80, 82, 79, 66, 51, 48] else []
theorem kind_any (k : Int) (w : World) : Calls Tryz.prog 50 #[.int .i64 k] w fun e w' => e = .returned (.string ⟨(kw k).toArray⟩) ∧ w' = w := by
  unfold kw
  by_cases h2 : k = 2
  · subst h2
    go_enter Tryz.func50, Tryz.ntmps50
    go_wp2
    go_ret
    exact ⟨rfl, rfl⟩
  · by_cases h3 : k = 3
    · subst h3
      go_enter Tryz.func50, Tryz.ntmps50
      go_wp2
      go_ret
      exact ⟨rfl, rfl⟩
    · by_cases h4 : k = 4
      · subst h4
        go_enter Tryz.func50, Tryz.ntmps50
        go_wp2
        go_ret
        exact ⟨rfl, rfl⟩
      · have e2 : (k == 2) = false := by simp [h2]
        have e3 : (k == 3) = false := by simp [h3]
        have e4 : (k == 4) = false := by simp [h4]
        rw [e2, e3, e4]
        go_enter Tryz.func50, Tryz.ntmps50
        go_wp2_with fail
        go_ret
        exact ⟨rfl, rfl⟩
end Go.Proofs.YtoaabdmbgemkjaaGreatDoor.Tx
