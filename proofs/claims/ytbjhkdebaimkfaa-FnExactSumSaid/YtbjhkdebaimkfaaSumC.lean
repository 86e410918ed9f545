/- Lists of float64 that are read; the sum of those that are known, in the program and in its model. -/
import Derived.Test.YtbjhkdebaimkfaaKnownC
import Derived.OwnWalk
import Derived.WalkSmall
import Derived.Laws.OwnMore
import Derived.Deep.QuietTactic
import Derived.BigQuiet
namespace Go.Proofs.Ytbjhkdebaimkfaa.Flt
open Go.ChangeShapes Go.WideShapes Go.ChangeAt Go.RowKit

def Reads (w : World) (v : Value) (L : List Nat) : Prop :=
  (L = [] ∧ ∃ a cap, v = .slice a 0 cap) ∨ ∃ b o cap, v = .slice (some ⟨b, o, none⟩) L.length cap ∧ L.length ≤ cap ∧ cap ≤ maxLen ∧ b < w.heap.size ∧ ∀ i, i < L.length → w.cell? ⟨b, o + i, none⟩ = some (.float .f64 (L.getD i 0))
theorem Reads.below {w w' : World} {v : Value} {L : List Nat} {B : Nat} (h : Reads w v L) (hb : Below B w w') (hB : w.heap.size ≤ B) : Reads w' v L := by
  rcases h with h | ⟨b, o, cap, h1, h2, h3, h4, h5⟩
  · exact Or.inl h
  · exact Or.inr ⟨b, o, cap, h1, h2, h3, Nat.lt_of_lt_of_le h4 hb.size, fun i hi => (hb.cell (p := ⟨b, o + i, none⟩) (by show b < B; omega)).trans (h5 i hi)⟩
theorem Reads.drewN {w : World} {v : Value} {L : List Nat} (h : Reads w v L) (n : Nat) : Reads (w.drewN n) v L := h

def stp (p : Nat × Nat) (x : Nat) : Nat × Nat := if kn x then ((Ieee.double.add p.1 x).getD 0, p.2 + 1) else p
def sumOf (L : List Nat) : Nat × Nat := L.foldl stp (0, 0)
theorem sum_snoc (L : List Nat) (k : Nat) (h : k < L.length) : sumOf (L.take (k + 1)) = stp (sumOf (L.take k)) (L.getD k 0) := by
  unfold sumOf
  rw [List.take_succ_eq_append_getElem h, List.foldl_append]
  simp [List.getD_eq_getElem?_getD, List.getElem?_eq_getElem h]
theorem sum_ok (L : List Nat) : rng (sumOf L).1 ≤ 9218868437227405312 ∧ (sumOf L).2 ≤ L.length := by
  unfold sumOf
  suffices h : ∀ (L : List Nat) (p : Nat × Nat), rng p.1 ≤ 9218868437227405312 → rng (L.foldl stp p).1 ≤ 9218868437227405312 ∧ (L.foldl stp p).2 ≤ p.2 + L.length by
    have := h L (0, 0) (by decide)
    simpa using this
  intro L
  induction L with
  | nil => intro p h; exact ⟨h, by simp⟩
  | cons x r ih =>
    intro p h
    have hs : rng (stp p x).1 ≤ 9218868437227405312 ∧ (stp p x).2 ≤ p.2 + 1 := by
      unfold stp
      by_cases e : kn x = true
      · rw [if_pos e]
        obtain ⟨q, h1, h2, _⟩ := add_some p.1 x h (by unfold kn at e; simpa using e)
        rw [h1]
        exact ⟨h2, by simp⟩
      · rw [if_neg e]; exact ⟨h, by omega⟩
    have := ih (stp p x) hs.1
    rw [List.foldl_cons]
    refine ⟨this.1, ?_⟩
    simp
    omega

theorem add_run (p x : Nat) (hp : rng p ≤ 9218868437227405312) (hx : kn x = true) (w : World) : (binOp .add 23 (.float .f64 p) (.float .f64 x)).run Try.prog w = .ok (.float .f64 ((Ieee.double.add p x).getD 0)) w := by
  obtain ⟨q, h1, _⟩ := add_some p x hp (by unfold kn at hx; simpa using hx)
  rw [h1]
  exact run_float_arith w .add 23 .f64 p x q h1

abbrev two (s : Nat) (c : Int) : Ending := .returned (.tuple #[.float .f64 s, .int .i64 c])

set_option maxHeartbeats 1000000 in
theorem isum (w : World) (v : Value) (L : List Nat) (h : Reads w v L) (hw : ∀ x ∈ L, x < 18446744073709551616) (hl : L.length ≤ 4000) :
    Calls Try.prog 7 #[v] w fun e w' => e = two (sumOf L).1 (sumOf L).2 ∧ w' = w := by
  rcases h with ⟨rfl, a, cap, rfl⟩ | ⟨b, o, cap, rfl, h2, h3, h4, h5⟩
  · go_enter Try.func7, Try.ntmps7
    go_wp2
    go_loop [4, 5, 7, 13] (fun s c _ i => s = .float .f64 0 ∧ c = .int .i64 0 ∧ i = .int .i64 0) (fun _ _ _ _ => 0)
    case atStart => exact ⟨rfl, rfl, rfl⟩
    case round =>
      obtain ⟨rfl, rfl, rfl⟩ := hrel
      go_wp2
      go_ret2
      exact ⟨rfl, rfl⟩
  · have HC : Hid (∀ i, i < L.length → w.cell? ⟨b, o + i, none⟩ = some (.float .f64 (L.getD i 0))) := h5
    have HW : Hid (∀ i, i < L.length → L.getD i 0 < 18446744073709551616) := fun i hi => hw _ (by simp [List.getD_eq_getElem?_getD, List.getElem?_eq_getElem hi])
    obtain ⟨n, hn⟩ : ∃ n, n = L.length := ⟨_, rfl⟩
    rw [← hn] at h2 hl ⊢
    have HN : Hid (n = L.length) := hn
    unfold maxLen at h3
    clear h5 hw hn
    go_enter Try.func7, Try.ntmps7
    go_wp2
    go_loop [4, 5, 7, 13] (fun s c _ i => ∃ k : Nat, k ≤ n ∧ i = .int .i64 k ∧ s = .float .f64 (sumOf (L.take k)).1 ∧ c = .int .i64 (sumOf (L.take k)).2) (fun _ _ _ i => n - (intOf i).toNat)
    case atStart => exact ⟨0, Nat.zero_le _, rfl, rfl, rfl⟩
    case round =>
      obtain ⟨k, hk, rfl, rfl, rfl⟩ := hrel
      by_cases hlt : k < n
      · have hlt' : k < L.length := by rw [← HN.out]; exact hlt
        have q1 := HC.out k hlt'
        have qw := HW.out k hlt'
        have sn := sum_snoc L k hlt'
        have so := sum_ok (L.take k)
        have so2 : (sumOf (L.take k)).2 ≤ 4000 := by have := so.2; simp at this; omega
        have i0 : (0 : Int) ≤ (k : Int) := by omega
        have i1 : (k : Int) < (n : Int) := by omega
        generalize L.getD k 0 = x at *
        generalize sumOf (L.take k) = p at *
        have SN : Hid (sumOf (L.take (k + 1)) = stp p x) := sn
        clear sn
        by_cases hx : kn x = true
        · have ar := add_run p.1 x so.1 hx
          have e1 : stp p x = ((Ieee.double.add p.1 x).getD 0, p.2 + 1) := by unfold stp; rw [if_pos hx]
          have E1 : Hid (sumOf (L.take (k + 1)) = ((Ieee.double.add p.1 x).getD 0, p.2 + 1)) := SN.out.trans e1
          generalize (Ieee.double.add p.1 x).getD 0 = y at *
          clear so e1 SN
          go_wp2_with (go_at_call 13; refine (iknown _ _ qw).mono ?_; rintro e w' ⟨rfl, rfl⟩)
          go_round
          case rel => exact ⟨k + 1, by omega, by go_num, by rw [E1.out], by rw [E1.out]; go_num⟩
          case measure => simp [intOf]; omega
        · have hx' : kn x = false := by simpa using hx
          have e1 : stp p x = p := by unfold stp; rw [if_neg hx]
          have E1 : Hid (sumOf (L.take (k + 1)) = p) := SN.out.trans e1
          clear so e1 SN hx
          go_wp2_with (go_at_call 13; refine (iknown _ _ qw).mono ?_; rintro e w' ⟨rfl, rfl⟩)
          go_round
          case rel => exact ⟨k + 1, by omega, by go_num, by rw [E1.out], by rw [E1.out]⟩
          case measure => simp [intOf]; omega
      · have e : L.take k = L := List.take_of_length_le (by rw [← HN.out]; omega)
        rw [e]
        go_wp2
        go_ret2
        exact ⟨rfl, rfl⟩
end Go.Proofs.Ytbjhkdebaimkfaa.Flt
