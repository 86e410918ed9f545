/- The neighbours of a cell: the model. -/
import Derived.Test.YtimbghigjfioeaaCa
import Derived.Test.YtimbghigjfioeaaBo
import Derived.Deep.DeepCutAuto
namespace Go.Proofs.Ytimbghigjfioeaa.Gd
open Go.ChangeShapes Go.WideShapes Go.ChangeAt Go.RowKit
open Go.Proofs.Ytimbghigjfioeaa.Bx (inn inn_iff i_in)
open Go.Proofs.Ytimbghigjfioeaa.Lists (ints)

def nbi (r c x : Int) : List Int := (nb r c (x / c) (x % c)).map (pl c)
def s1 (r c x : Int) : List Int := if x / c < r - 1 then [x + c] else []
def s2 (r c x : Int) : List Int := s1 r c x ++ if x % c < c - 1 then [x + 1] else []
def s3 (r c x : Int) : List Int := s2 r c x ++ if 0 < x / c then [x - c] else []
def s4 (r c x : Int) : List Int := s3 r c x ++ if 0 < x % c then [x - 1] else []
theorem nbi_is {r c x : Int} (hc : 1 ≤ c) (hx : 0 ≤ x ∧ x < r * c) : nbi r c x = s4 r c x := by
  have i1 : 0 ≤ x / c ∧ x / c < r := ⟨Int.ediv_nonneg hx.1 (by omega), (Int.ediv_lt_iff_lt_mul (by omega)).2 hx.2⟩
  have j1 : 0 ≤ x % c ∧ x % c < c := ⟨Int.emod_nonneg _ (by omega), Int.emod_lt_of_pos _ (by omega)⟩
  have e : x = x / c * c + x % c := by have := Int.mul_ediv_add_emod x c; rw [Int.mul_comm] at this; omega
  unfold nbi s4 s3 s2 s1
  generalize x / c = i at *
  generalize x % c = j at *
  unfold nb cands
  have t1 : there r c (i + 1) j = decide (i < r - 1) := by unfold there inn; rw [Bool.eq_iff_iff]; simp; omega
  have t2 : there r c i (j + 1) = decide (j < c - 1) := by unfold there inn; rw [Bool.eq_iff_iff]; simp; omega
  have t3 : there r c (i - 1) j = decide (0 < i) := by unfold there inn; rw [Bool.eq_iff_iff]; simp; omega
  have t4 : there r c i (j - 1) = decide (0 < j) := by unfold there inn; rw [Bool.eq_iff_iff]; simp; omega
  have p1 : pl c (i + 1, j) = x + c := by unfold pl; simp only; rw [Int.add_mul]; omega
  have p2 : pl c (i, j + 1) = x + 1 := by unfold pl; simp only; omega
  have p3 : pl c (i - 1, j) = x - c := by unfold pl; simp only; rw [Int.sub_mul]; omega
  have p4 : pl c (i, j - 1) = x - 1 := by unfold pl; simp only; omega
  simp only [List.filter_cons, List.filter_nil, t1, t2, t3, t4, decide_eq_true_eq]
  split <;> split <;> split <;> split <;> simp [p1, p2, p3, p4]
theorem one_int (z : Int) : ∀ u ∈ [Value.int .i64 z], u.oneCell' = true := by
  intro u hu
  simp at hu
  subst hu
  rfl
theorem row_form {w : World} {B k : Nat} {v : Value} {xs : List Value} (R : w.ownsRow B 2 1 v k xs) : ∃ sa sc, v = .slice sa k sc := by
  rcases R.2 with ⟨h, h'⟩ | ⟨g, c, cur, h, _⟩
  · exact ⟨none, 0, by rw [h, h']⟩
  · exact ⟨_, _, h⟩
theorem row_snoc {w : World} {B : Nat} {v : Value} {A : List Int} {y : Int} {n : Nat} (hn : n = A.length) (h : w.ownsRow B 2 1 v (n + 1) (ints A ++ [.int .i64 y])) : w.ownsRow B 2 1 v (A ++ [y]).length (ints (A ++ [y])) := by
  subst hn
  rw [List.length_append]
  simpa [ints] using h
/-- What the model has so far. -/
def St (w : World) (r c : Int) (u : Value) (wx : World) (v : Value) (A : List Int) : Prop := wx.ownsRow (w.heap.size + 1) 2 1 v A.length (ints A) ∧ Bo.Box wx w.heap.size (.int .i64 r) (.int .i64 c) u ∧ Below w.heap.size w wx ∧ w.heap.size + 1 ≤ wx.heap.size
theorem St.push {w wx w2 : World} {r c : Int} {u v v' : Value} {A : List Int} {y : Int} {o : Obj} (h : St w r c u wx v A) (hown : w2.ownsRow (w.heap.size + 1) 2 1 v' (A.length + 1) (ints A ++ [.int .i64 y])) (hgrow : (wx.alloc o).grownBy w2 v.ownBlock) : St w r c u w2 v' (A ++ [y]) := by
  obtain ⟨h1, h2, h3, h4⟩ := h
  have hs := hgrow.size
  simp at hs
  have ol : ∀ g, v.ownBlock = some g → w.heap.size + 1 ≤ g := fun g hg => (h1.lt g hg).1
  refine ⟨row_snoc rfl hown, ?_, (h3.alloc h3.size _).grown hgrow (by simp; omega) (fun g hg => by have := ol g hg; omega), by omega⟩
  have ha : Bo.Box (wx.alloc o) w.heap.size (.int .i64 r) (.int .i64 c) u := h2.on ((Below.refl wx.heap.size wx).alloc (Nat.le_refl _) _) (by omega)
  exact ha.apart hgrow (fun k hk => by have := ol k hk; omega)

end Go.Proofs.Ytimbghigjfioeaa.Gd
