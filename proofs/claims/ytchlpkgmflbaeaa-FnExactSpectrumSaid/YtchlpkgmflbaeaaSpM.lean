/- Sums with the powers of a turn: the model. -/
import Derived.Test.YtchlpkgmflbaeaaSpC
import Derived.Maps.AppendAt
namespace Go.Proofs.Ytchlpkgmflbaeaa.Sp
open Go.ChangeShapes Go.WideShapes Go.ChangeAt Go.RowKit
open Go.Proofs.Ytchlpkgmflbaeaa.Lists Go.Proofs.Ytchlpkgmflbaeaa.Al Go.Proofs.Ytchlpkgmflbaeaa.Su Go.Proofs.Ytchlpkgmflbaeaa.Mx

set_option maxHeartbeats 1000000 in
theorem sturn_any (c : Nat) (hc : c ≤ 6) (w : World) : Calls Try.prog 12 #[.int .i64 ((2 ^ c : Nat) : Int)] w fun e w' => e = .returned (.int .i64 (sq (16 - c))) ∧ w' = w := by
  obtain ⟨n, hn⟩ : ∃ n, n = 2 ^ c := ⟨_, rfl⟩
  rw [← hn]
  have HN : Hid (n = 2 ^ c) := hn
  have n64 : n ≤ 64 := by rw [hn]; have := Nat.pow_le_pow_right (n := 2) (by omega) hc; omega
  clear hn
  go_enter Try.func12, Try.ntmps12
  go_wp2_with fail
  go_loop [3, 4] (fun x m => ∃ j : Nat, j ≤ 16 - c ∧ x = .int .i64 (sq j) ∧ m = .int .i64 ((2 ^ (16 - j) : Nat) : Int)) (fun _ m => (intOf m).toNat)
  case atStart => exact ⟨0, Nat.zero_le _, rfl, rfl⟩
  case round =>
    obtain ⟨j, hj, rfl, rfl⟩ := hrel
    by_cases hlt : j < 16 - c
    · have g1 : 2 ^ c < 2 ^ (16 - j) := Nat.pow_lt_pow_right (by omega) (by omega)
      have g2 : 2 ^ (16 - j) = 2 * 2 ^ (16 - (j + 1)) := by
        rw [show 16 - j = (16 - (j + 1)) + 1 by omega, Nat.pow_succ]
        omega
      have g3 : 2 ^ (16 - j) ≤ 2 ^ 16 := Nat.pow_le_pow_right (by omega) (by omega)
      have g4 : 1 ≤ 2 ^ (16 - (j + 1)) := Nat.pow_pos (by omega)
      obtain ⟨q, hq⟩ : ∃ q, q = 2 ^ (16 - (j + 1)) := ⟨_, rfl⟩
      have HQ : Hid (q = 2 ^ (16 - (j + 1))) := hq
      rw [← HN.out] at g1
      rw [← hq] at g2 g4
      obtain ⟨p, hp⟩ : ∃ p, p = 2 ^ (16 - j) := ⟨_, rfl⟩
      rw [← hp] at g1 g2 g3 ⊢
      clear hp hq
      have g5 : p ≤ 65536 := by omega
      have g6 : (n : Int) < (p : Int) := by omega
      have g7 : (p : Int).tdiv 2 = (q : Int) := by rw [Int.tdiv_eq_ediv_of_nonneg (by omega)]; omega
      have E : Hid (sq (j + 1) = sq j * sq j % 65537) := rfl
      have b := sq_bd j
      have pb : 0 ≤ sq j * sq j ∧ sq j * sq j ≤ 4294967296 := Mx.prod_bound b b
      obtain ⟨m1, m2⟩ := pb
      generalize sq j = x at *
      clear g3
      go_wp2_with fail
      go_round
      case rel => exact ⟨j + 1, by omega, by rw [E.out], by rw [HQ.out]⟩
      case measure => simp [intOf]; omega
    · have hjn : j = 16 - c := by omega
      have e : 2 ^ (16 - j) = n := by rw [HN.out]; congr 1; omega
      rw [e, hjn]
      go_wp2_with fail
      go_ret
      exact ⟨rfl, rfl⟩

def pl (t : Int) : Nat → List Int
  | 0 => []
  | k + 1 => pl t k ++ [pr t k]
theorem pl_len (t : Int) (k : Nat) : (pl t k).length = k := by
  induction k with
  | zero => rfl
  | succ k ih => unfold pl; simp [ih]
theorem pl_get (t : Int) (k : Nat) : ∀ j, j < k → (pl t k).getD j 0 = pr t j := by
  induction k with
  | zero => intro j h; omega
  | succ k ih =>
    intro j h
    unfold pl
    by_cases e : j < k
    · rw [List.getD_eq_getElem?_getD, List.getElem?_append_left (by rw [pl_len]; exact e), ← List.getD_eq_getElem?_getD]
      exact ih j e
    · have : j = k := by omega
      subst this
      rw [List.getD_eq_getElem?_getD, List.getElem?_append_right (by rw [pl_len]; exact Nat.le_refl _), pl_len]
      simp
theorem ints_snoc (L : List Int) (x : Int) : ints (L ++ [x]) = ints L ++ [.int .i64 x] := by simp [ints]
theorem cell_one (w : World) (v0 : Value) (t : TypeId) : ∀ j u, [v0][j]? = some u → (w.alloc (Obj.cells #[v0] t)).cell? ((⟨w.heap.size, 0, none⟩ : Addr).add j) = some u := by
  intro j u hj
  match j, hj with
  | 0, hj => simp at hj; subst hj; simp [Addr.add]
theorem one_one (x : Int) : ∀ u ∈ [Value.int .i64 x], u.oneCell' = true := by intro u hu; simp at hu; subst hu; rfl
theorem row_form {w : World} {B k : Nat} {v : Value} {xs : List Value} (R : w.ownsRow B 2 1 v k xs) : ∃ sa sc, v = .slice sa k sc := by
  rcases R.2 with ⟨h, h'⟩ | ⟨g, c, cur, h, _⟩
  · exact ⟨none, 0, by rw [h, h']⟩
  · exact ⟨_, _, h⟩
theorem lit_row (w : World) : (w.alloc (Obj.cells #[] 2)).ownsRow w.heap.size 2 1 (.slice (some ⟨w.heap.size, 0, none⟩) 0 0) 0 [] := by
  have := World.ownsRow_lit (e := 2) w #[] 0 (size := 1) (Nat.le_refl _) (Nat.zero_le _) rfl
  simp at this
  exact this
theorem row_low {w : World} {B A n : Nat} {v : Value} {xs : List Value} (h : w.ownsRow B 2 1 v n xs) (hA : A ≤ B) : w.ownsRow A 2 1 v n xs := by
  obtain ⟨h0, h⟩ := h
  refine ⟨h0, ?_⟩
  rcases h with h | ⟨g, cap, cur, h1, h2, h3⟩
  · exact Or.inl h
  · exact Or.inr ⟨g, cap, cur, h1, by omega, h3⟩
theorem sm_mod' (n : Nat) (f : Nat → Int) : sm (n + 1) f % 65537 = (sm n f % 65537 + f n) % 65537 := Mx.sm_mod n f
end Go.Proofs.Ytchlpkgmflbaeaa.Sp
