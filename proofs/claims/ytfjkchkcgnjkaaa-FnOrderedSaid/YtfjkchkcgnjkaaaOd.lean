/- The law of ordered lists: counted, walked. -/
import Derived.Test.YtfjkchkcgnjkaaaDs
import Derived.Test.YtfjkchkcgnjkaaaOl
namespace Go.Proofs.Ytfjkchkcgnjkaaa.Srt
open Go.ChangeShapes Go.WideShapes Go.ChangeAt Go.RowKit
open Go.Proofs.Ytfjkchkcgnjkaaa.Flt Go.Proofs.Ytfjkchkcgnjkaaa.St Go.Proofs.Ytfjkchkcgnjkaaa.Fls
attribute [local go_sem] Fls.run_store_flt

theorem same_cn_eq (y x : Nat) : sameB y x = (cn y == cn x) := by
  unfold sameB
  cases hy : nan y <;> cases hx : nan x
  · rw [cn_num hy, cn_num hx, Bool.eq_iff_iff]; simp
  · rw [cn_nan hx, cn_num hy]
    have : y ≠ qn := fun e => by rw [e, nan_qn] at hy; cases hy
    simp [this]
  · rw [cn_nan hy, cn_num hx]
    have : qn ≠ x := fun e => by rw [← e, nan_qn] at hx; cases hx
    simp [this]
  · rw [cn_nan hy, cn_nan hx]; simp
def cnt (L : List Nat) (x : Nat) (k : Nat) : Nat := (L.take k).countP fun y => sameB y x
theorem cnt_zero (L : List Nat) (x : Nat) : cnt L x 0 = 0 := by simp [cnt]
theorem cnt_le (L : List Nat) (x k : Nat) : cnt L x k ≤ k := by
  unfold cnt
  have := List.countP_le_length (p := fun y => sameB y x) (l := L.take k)
  rw [List.length_take] at this
  omega
theorem cnt_step {L : List Nat} {x k : Nat} (h : k < L.length) : cnt L x (k + 1) = cnt L x k + if sameB (L.getD k 0) x then 1 else 0 := by
  unfold cnt
  rw [List.take_add_one, List.countP_append, List.getElem?_eq_getElem h]
  simp [List.getD_eq_getElem?_getD, h, List.countP_cons]
theorem cnt_full {L M : List Nat} {x : Nat} (h : (L.map cn).Perm (M.map cn)) : cnt L x L.length = cnt M x M.length := by
  have e : ∀ N : List Nat, cnt N x N.length = (N.map cn).countP fun y => y == cn x := fun N => by
    unfold cnt
    rw [List.take_length, List.countP_map]
    exact List.countP_congr (fun y _ => by simp [same_cn_eq])
  rw [e, e]
  exact h.countP_eq _

set_option maxHeartbeats 400000 in
theorem big_yes (a : Option Addr) (n cap : Nat) (w : World) (h : 1048576 < n) (hn : n < 9223372036854775808) : Calls Try.prog 11 #[.slice a n cap] w fun e w' => e = .returned (.bool true) ∧ w' = w := by
  have h' : (1048576 : Int) < (n : Int) := by omega
  go_enter Try.func11, Try.ntmps11
  go_wp2
  go_ret
  exact ⟨rfl, rfl⟩
set_option maxHeartbeats 400000 in
theorem big_no (a : Option Addr) (n cap : Nat) (w : World) (h : n ≤ 1048576) : Calls Try.prog 11 #[.slice a n cap] w fun e w' => e = .returned (.bool false) ∧ w' = w := by
  have h' : ¬ ((1048576 : Int) < (n : Int)) := by omega
  go_enter Try.func11, Try.ntmps11
  go_wp2
  go_ret
  exact ⟨rfl, rfl⟩
/-- what the two lists are to each other -/
structure LM (n : Nat) (L M : List Nat) : Prop where
  ln : L.length = n
  lm : M.length = n
  bl : Bd L
  bm : Bd M
  perm : (L.map cn).Perm (M.map cn)
  asc : Asc M
theorem LM.of {L L2 M : List Nat} (h : L.map cn = L2.map cn) (b : Bd L) (b2 : Bd L2) (hl : L2.length ≤ 4000) (o : OR L2 M) : LM L.length L M := by
  unfold OR at o
  rw [if_pos hl] at o
  have e : L.length = L2.length := by have := congrArg List.length h; simpa using this
  refine ⟨rfl, by rw [e]; exact o.1.length_eq, b, fun z hz => b2 z (o.1.subset hz), ?_, o.2⟩
  rw [h]
  exact (o.1.map cn).symm
theorem bd_get {L : List Nat} (h : Bd L) (i : Nat) : L.getD i 0 < 18446744073709551616 := by
  by_cases e : i < L.length
  · rw [List.getD_eq_getElem?_getD, List.getElem?_eq_getElem e]; exact h _ (List.getElem_mem e)
  · rw [List.getD_eq_getElem?_getD, List.getElem?_eq_none (by omega)]; decide
theorem LM.le {n : Nat} {L M : List Nat} (h : LM n L M) {i : Nat} (h0 : 0 < i) (hi : i < n) (hn : nan (M.getD i 0) = false) : FloatKind.f64.format.order (M.getD (i - 1) 0) (M.getD i 0) = some .lt ∨ FloatKind.f64.format.order (M.getD (i - 1) 0) (M.getD i 0) = some .eq := by
  have hp : pl (M.getD (i - 1) 0) ≤ pl (M.getD i 0) := by
    have a := List.pairwise_iff_getElem.1 h.asc (i - 1) i (by have := h.lm; omega) (by have := h.lm; omega) (by omega)
    have l1 : i - 1 < M.length := by have := h.lm; omega
    have l2 : i < M.length := by have := h.lm; omega
    simp only [List.getD_eq_getElem?_getD, List.getElem?_eq_getElem l1, List.getElem?_eq_getElem l2, Option.getD_some]
    exact of_decide_eq_true a
  have b1 := bd_get h.bm (i - 1)
  have b2 := bd_get h.bm i
  generalize M.getD (i - 1) 0 = y at *
  generalize M.getD i 0 = z at *
  have ny : nan y = false := by
    cases e : nan y
    · rfl
    · have := pl_num hn b2; rw [pl_nan e] at hp; omega
  have o : FloatKind.f64.format.order y z = some (compare (key y) (key z)) := order_key y z (rng_le ny) (rng_le hn)
  have q := pl_lt b2 b1 hn ny
  rw [o]
  by_cases c : key y < key z
  · left; rw [c_lt c]
  · by_cases c2 : key y = key z
    · right; rw [c_eq c2]
    · exfalso
      have : pl z < pl y := q.2 (Or.inl (by omega))
      omega
theorem Cells.of {w : World} {B : Nat} {v : Value} {L : List Nat} (h : w.ownsRow B 31 1 v L.length (flts L)) : ∃ g o c, (L.length = 0 ∧ v = .slice none 0 0 ∨ v = .slice (some ⟨g, o, none⟩) L.length c) ∧ ∀ i, i < L.length → w.cell? ⟨g, o + i, none⟩ = some (.float .f64 (L.getD i 0)) := by
  rcases row_cases h with ⟨rfl, rfl⟩ | ⟨g, c, rfl, _, _, _, _⟩
  · exact ⟨0, 0, 0, Or.inl ⟨rfl, rfl⟩, fun i hi => absurd hi (by simp)⟩
  · exact ⟨g, 0, c, Or.inr rfl, fun i hi => by rw [Nat.zero_add]; exact row_cell h i hi⟩
end Go.Proofs.Ytfjkchkcgnjkaaa.Srt
