/- Breaks: plainly, the model, the program, the law. -/
import Derived.Test.YtcdajejapcbllaaSe
namespace Go.Proofs.Ytcdajejapcbllaa.Bk
open Go.ChangeShapes Go.WideShapes Go.ChangeAt Go.RowKit
open Go.Proofs.Ytcdajejapcbllaa.Lists Go.Proofs.Ytcdajejapcbllaa.Al Go.Proofs.Ytcdajejapcbllaa.Su Go.Proofs.Ytcdajejapcbllaa.Se

theorem below_drewN {B : Nat} {a w : World} (h : Below B a w) (n : Nat) : Below B a (w.drewN n) := h.trans ⟨rfl, rfl, rfl, Nat.le_refl _, fun _ _ => rfl⟩
theorem reads_take {w : World} {b o n cap : Nat} {L : List Int} (h : Lists.Reads w (.slice (some ⟨b, o, none⟩) n cap) L) (hn : n = L.length) (k : Nat) (hk : k ≤ n) : Lists.Reads w (.slice (some ⟨b, o, none⟩) k cap) (L.take k) := by
  by_cases e : k = 0
  · subst e; exact Or.inl ⟨by simp, _, _, rfl⟩
  · have hl : (L.take k).length = k := by simp; omega
    rcases h with ⟨rfl, _⟩ | ⟨b', o', c, h1, h2, h3, h4, h5⟩
    · simp at hn; omega
    · simp at h1
      obtain ⟨⟨rfl, rfl⟩, _, rfl⟩ := h1
      refine Or.inr ⟨b, o, cap, by rw [hl], by omega, h3, h4, fun i hi => ?_⟩
      rw [hl] at hi
      rw [h5 i (by omega)]
      simp [List.getD_eq_getElem?_getD, hi]
theorem reads_drop {w : World} {b o n cap : Nat} {L : List Int} (h : Lists.Reads w (.slice (some ⟨b, o, none⟩) n cap) L) (hn : n = L.length) (k : Nat) (hk : k ≤ n) : Lists.Reads w (.slice (some ⟨b, o + k, none⟩) (n - k) (cap - k)) (L.drop k) := by
  by_cases e : n - k = 0
  · rw [e]; exact Or.inl ⟨by apply List.drop_eq_nil_of_le; omega, _, _, rfl⟩
  · have hl : (L.drop k).length = n - k := by simp; omega
    rcases h with ⟨rfl, _⟩ | ⟨b', o', c, h1, h2, h3, h4, h5⟩
    · simp at hn; omega
    · simp at h1
      obtain ⟨⟨rfl, rfl⟩, _, rfl⟩ := h1
      refine Or.inr ⟨b, o + k, cap - k, by rw [hl], by omega, by omega, h4, fun i hi => ?_⟩
      rw [hl] at hi
      have := h5 (k + i) (by omega)
      rw [show o + k + i = o + (k + i) by omega, this]
      simp [List.getD_eq_getElem?_getD, List.getElem?_drop]
theorem tot_take (L : List Int) (k : Nat) (hk : k ≤ L.length) : tot (L.take k) (L.take k).length = tot L k := by
  have hl : (L.take k).length = k := by simp; omega
  rw [hl]
  exact sm_congr fun i hi => by simp [List.getD_eq_getElem?_getD, hi]
theorem sm_add (f : Nat → Int) (a : Nat) : ∀ c, sm (a + c) f = sm a f + sm c fun i => f (a + i)
  | 0 => by simp [sm]
  | c + 1 => by
    have := sm_add f a c
    show sm (a + c) f + f (a + c) = sm a f + ((sm c fun i => f (a + i)) + f (a + c))
    rw [this]
    omega
theorem tot_drop (L : List Int) (k : Nat) (hk : k ≤ L.length) : tot (L.drop k) (L.drop k).length = tot L L.length - tot L k := by
  have hl : (L.drop k).length = L.length - k := by simp
  have := sm_add (fun i => L.getD i 0) k (L.length - k)
  rw [show k + (L.length - k) = L.length by omega] at this
  rw [hl]
  unfold tot
  rw [this]
  have e : (sm (L.length - k) fun i => (L.drop k).getD i 0) = sm (L.length - k) fun i => L.getD (k + i) 0 := sm_congr fun i hi => by simp [List.getD_eq_getElem?_getD, List.getElem?_drop]
  rw [e]
  omega
theorem bd_take {L : List Int} (hz : ∀ j, j < L.length → -100000 ≤ L.getD j 0 ∧ L.getD j 0 ≤ 100000) (k : Nat) : ∀ j, j < (L.take k).length → -100000 ≤ (L.take k).getD j 0 ∧ (L.take k).getD j 0 ≤ 100000 := fun j hj => by
  have h1 : j < k := by simp at hj; omega
  have h2 : j < L.length := by simp at hj; omega
  have := hz j h2
  simpa [List.getD_eq_getElem?_getD, List.getElem?_take, h1] using this
theorem bd_drop {L : List Int} (hz : ∀ j, j < L.length → -100000 ≤ L.getD j 0 ∧ L.getD j 0 ≤ 100000) (k : Nat) : ∀ j, j < (L.drop k).length → -100000 ≤ (L.drop k).getD j 0 ∧ (L.drop k).getD j 0 ≤ 100000 := fun j hj => by
  have h2 : k + j < L.length := by simp at hj; omega
  have := hz (k + j) h2
  simpa [List.getD_eq_getElem?_getD, List.getElem?_drop] using this

def dif (L : List Int) (k : Nat) : Int := (L.length : Int) * tot L k - (k : Int) * tot L L.length
def off (L : List Int) (k : Nat) : Int := ((dif L k).natAbs : Int)
def bk (f : Nat → Int) : Nat → Int × Int
  | 0 => (0, -1)
  | k + 1 => if (bk f k).2 < f (k + 1) then (((k + 1 : Nat) : Int), f (k + 1)) else bk f k
theorem bk_some (f : Nat → Int) (hf : ∀ k, 0 ≤ f k) : ∀ k, 0 < k → 1 ≤ (bk f k).1 ∧ (bk f k).1 ≤ k ∧ 0 ≤ (bk f k).2 := by
  intro k
  induction k with
  | zero => intro h; omega
  | succ k ih =>
    intro _
    unfold bk
    have := hf (k + 1)
    by_cases hk : k = 0
    · subst hk
      rw [if_pos (by show (-1 : Int) < _; omega)]
      simp; omega
    · have := ih (by omega)
      split
      · simp; omega
      · omega
theorem bk_at (f : Nat → Int) : ∀ k, (0 < k → (-1 : Int) < f 1) → 0 < k → ∃ j, 1 ≤ j ∧ j ≤ k ∧ (bk f k).1 = (j : Nat) ∧ (bk f k).2 = f j := by
  intro k
  induction k with
  | zero => intro _ h; omega
  | succ k ih =>
    intro h1 _
    unfold bk
    by_cases hk : k = 0
    · subst hk
      rw [if_pos (by show (-1 : Int) < _; exact h1 (by omega))]
      exact ⟨1, by omega, by omega, rfl, rfl⟩
    · obtain ⟨j, a, b, c, d⟩ := ih (fun _ => h1 (by omega)) (by omega)
      split
      · exact ⟨k + 1, by omega, by omega, rfl, rfl⟩
      · exact ⟨j, a, by omega, c, d⟩
theorem off_nn (L : List Int) (k : Nat) : 0 ≤ off L k := Int.natCast_nonneg _
/- what is told: the place, and how far off -/
def at_ (L : List Int) : Int := if okS L then (bk (off L) (L.length - 1)).1 else 0
def far (L : List Int) : Int := if okS L then max (bk (off L) (L.length - 1)).2 0 else 0

theorem mul_bd {a b M N : Int} (ha : -M ≤ a ∧ a ≤ M) (hb : -N ≤ b ∧ b ≤ N) : -(M * N) ≤ a * b ∧ a * b ≤ M * N := by
  have e : (a * b).natAbs = a.natAbs * b.natAbs := Int.natAbs_mul a b
  have h1 : a.natAbs ≤ M.toNat := by omega
  have h2 : b.natAbs ≤ N.toNat := by omega
  have h3 : a.natAbs * b.natAbs ≤ M.toNat * N.toNat := Nat.mul_le_mul h1 h2
  have h4 : ((M.toNat * N.toNat : Nat) : Int) = M * N := by
    rw [Int.natCast_mul, Int.toNat_of_nonneg (by omega), Int.toNat_of_nonneg (by omega)]
  have h5 : ((a * b).natAbs : Int) ≤ M * N := by rw [e, ← h4]; exact Int.ofNat_le.2 h3
  omega
theorem dif_parts {L : List Int} (hn : L.length ≤ 500) (hz : ∀ j, j < L.length → -100000 ≤ L.getD j 0 ∧ L.getD j 0 ≤ 100000) (k : Nat) (hk : k ≤ L.length) :
    (-50000000 ≤ tot L k ∧ tot L k ≤ 50000000) ∧ (-25000000000 ≤ (L.length : Int) * tot L k ∧ (L.length : Int) * tot L k ≤ 25000000000) ∧ (-25000000000 ≤ (k : Int) * tot L L.length ∧ (k : Int) * tot L L.length ≤ 25000000000) := by
  have a := tot_bd hz k hk
  have b := tot_bd hz L.length (Nat.le_refl _)
  refine ⟨by omega, ?_, ?_⟩
  · exact mul_bd (M := 500) (N := 50000000) (by omega) (by omega)
  · exact mul_bd (M := 500) (N := 50000000) (by omega) (by omega)

set_option maxHeartbeats 1000000 in
theorem apart_any (x y : Int) (w : World) (hx : -25000000000 ≤ x ∧ x ≤ 25000000000) (hy : -25000000000 ≤ y ∧ y ≤ 25000000000) :
    Calls Try.prog 22 #[.int .i64 x, .int .i64 y] w fun e w' => e = .returned (.int .i64 ((x - y).natAbs : Int)) ∧ w' = w := by
  by_cases h : y ≤ x
  · have e : ((x - y).natAbs : Int) = x - y := by omega
    rw [e]
    by_cases h2 : x ≤ y
    · have h3 : x = y := by omega
      subst h3
      go_enter Try.func22, Try.ntmps22
      go_wp2_with fail
      go_ret
      exact ⟨by simp, rfl⟩
    · go_enter Try.func22, Try.ntmps22
      go_wp2_with fail
      go_ret
      exact ⟨rfl, rfl⟩
  · have e : ((x - y).natAbs : Int) = y - x := by omega
    rw [e]
    have h2 : x ≤ y := by omega
    go_enter Try.func22, Try.ntmps22
    go_wp2_with fail
    go_ret
    exact ⟨rfl, rfl⟩
end Go.Proofs.Ytcdajejapcbllaa.Bk
