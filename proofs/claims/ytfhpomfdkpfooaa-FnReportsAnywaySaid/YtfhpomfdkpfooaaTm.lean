/- Tasks that lie apart: marked, held. -/
import Derived.Test.YtfhpomfdkpfooaaSu
import Derived.Test.YtfhpomfdkpfooaaRmW
namespace Go.Proofs.Ytfhpomfdkpfooaa.Tm
open Go.ChangeShapes Go.WideShapes Go.ChangeAt Go.RowKit
open Go.Proofs.Ytfhpomfdkpfooaa.Lists Go.Proofs.Ytfhpomfdkpfooaa.Tk

/-- What is as it was but for the blocks of S. -/
structure KB (S : Nat → Prop) (w w' : World) : Prop where
  os : w'.os = w.os
  tape : w'.tape = w.tape
  output : w'.output = w.output
  size : w.heap.size ≤ w'.heap.size
  block : ∀ k, k < w.heap.size → ¬ S k → w'.heap[k]? = w.heap[k]?
theorem KB.refl (S : Nat → Prop) (w : World) : KB S w w := ⟨rfl, rfl, rfl, Nat.le_refl _, fun _ _ _ => rfl⟩
theorem KB.trans {S : Nat → Prop} {w w' w'' : World} (h : KB S w w') (h' : KB S w' w'') : KB S w w'' := ⟨h'.os.trans h.os, h'.tape.trans h.tape, h'.output.trans h.output, Nat.le_trans h.size h'.size, fun k hk hn => (h'.block k (Nat.lt_of_lt_of_le hk h.size) hn).trans (h.block k hk hn)⟩
theorem KB.mono {S S' : Nat → Prop} {w w' : World} (h : KB S w w') (hs : ∀ k, S k → S' k) : KB S' w w' := ⟨h.os, h.tape, h.output, h.size, fun k hk hn => h.block k hk (fun x => hn (hs k x))⟩
theorem KB.of_grown {S : Nat → Prop} {w w' : World} {row : Option Nat} (h : w.grownBy w' row) (hs : ∀ k, row = some k → S k) : KB S w w' := ⟨h.os, h.tape, h.output, h.size, fun k hk hn => h.block k hk (fun e => hn (hs k e.symm))⟩
theorem KB.of_below {S : Nat → Prop} {w w' : World} (h : Below w.heap.size w w') : KB S w w' := ⟨h.os, h.tape, h.output, h.size, fun k hk _ => h.block k hk⟩
theorem KB.of_set {S : Nat → Prop} (w : World) (g o : Nat) (u : Value) (hs : S g) : KB S w (w.setCell ⟨g, o, none⟩ u) := KB.of_grown (grown_setCell (World.grownBy.refl w (some g)) o u) (fun k e => by simp at e; subst e; exact hs)
theorem KB.below {S : Nat → Prop} {w w' : World} {B : Nat} (h : KB S w w') (hB : B ≤ w.heap.size) (hs : ∀ k, S k → B ≤ k) : Below B w w' := ⟨h.os, h.tape, h.output, h.size, fun k hk => h.block k (by omega) (fun x => by have := hs k x; omega)⟩
theorem row_kb {S : Nat → Prop} {w w' : World} {base n k : Nat} {e : TypeId} {v : Value} {xs : List Value} (h : w.ownsRow base e k v n xs) (hb : KB S w w') (hne : ∀ g, v.ownBlock = some g → ¬ S g) : w'.ownsRow base e k v n xs := by
  refine ⟨h.1, ?_⟩
  rcases h.2 with h2 | ⟨g, cap, cur, h1, h2, h3, h4⟩
  · exact .inl h2
  · have hg : g < w.heap.size := by
      rcases Nat.lt_or_ge g w.heap.size with x | x
      · exact x
      · rw [Array.getElem?_eq_none x] at h3; cases h3
    exact .inr ⟨g, cap, cur, h1, h2, (hb.block g hg (hne g (by rw [h1]; rfl))).trans h3, h4⟩
/-- Rows of two types lie in two blocks. -/
theorem type_ne {w : World} {b1 b2 n1 n2 k1 k2 : Nat} {e1 e2 : TypeId} {v1 v2 : Value} {xs1 xs2 : List Value} (h1 : w.ownsRow b1 e1 k1 v1 n1 xs1) (h2 : w.ownsRow b2 e2 k2 v2 n2 xs2) (he : e1 ≠ e2) (g : Nat) (x1 : v1.ownBlock = some g) (x2 : v2.ownBlock = some g) : False := by
  rcases h1.2 with ⟨a, _⟩ | ⟨g1, c1, cur1, y1, _, z1, _⟩
  · rw [a] at x1; cases x1
  · rcases h2.2 with ⟨a, _⟩ | ⟨g2, c2, cur2, y2, _, z2, _⟩
    · rw [a] at x2; cases x2
    · rw [y1] at x1; rw [y2] at x2
      simp [Value.ownBlock] at x1 x2
      rw [x1] at z1; rw [x2] at z2
      rw [z1] at z2
      simp at z2
      exact he z2.2

def bk (xs : List Value) (i : Nat) : Option Nat := ((xs[i * 4]?).getD (.slice none 0 0)).ownBlock
/-- The lists of the tasks lie in blocks of their own. -/
def Rise (xs : List Value) (k : Nat) : Prop := ∀ i j a, i < j → j < k → bk xs i = some a → bk xs j ≠ some a
def Own (w : World) (base : Nat) (v : Value) (xs : List Value) (R : Ls) : Prop := w.ownsRow base 50 4 v R.length xs ∧ Tk.Good w base xs R R.length ∧ Rise xs R.length
theorem Own.row {w : World} {base : Nat} {v : Value} {xs : List Value} {R : Ls} (h : Own w base v xs R) : Tk.Row w base v R := ⟨xs, h.1, h.2.1⟩
/-- The blocks of a list of tasks. -/
def Bs (v : Value) (xs : List Value) (n : Nat) (g : Nat) : Prop := v.ownBlock = some g ∨ ∃ i, i < n ∧ bk xs i = some g
theorem Own.bs {w : World} {base : Nat} {v : Value} {xs : List Value} {R : Ls} (h : Own w base v xs R) (g : Nat) (hg : Bs v xs R.length g) : base ≤ g ∧ g < w.heap.size := by
  rcases hg with hg | ⟨i, hi, hg⟩
  · exact h.1.lt g hg
  · obtain ⟨_, _, _, u, hu, hr⟩ := h.2.1 i hi
    unfold bk at hg
    rw [hu] at hg
    exact hr.lt g hg
theorem Own.kb {S : Nat → Prop} {w w' : World} {base : Nat} {v : Value} {xs : List Value} {R : Ls} (h : Own w base v xs R) (hb : KB S w w') (hn : ∀ g, Bs v xs R.length g → ¬ S g) : Own w' base v xs R := by
  refine ⟨row_kb h.1 hb (fun g hg => hn g (.inl hg)), fun i hi => ?_, h.2.2⟩
  obtain ⟨h1, h2, h3, u, hu, hr⟩ := h.2.1 i hi
  exact ⟨h1, h2, h3, u, hu, row_kb hr hb (fun g hg => hn g (.inr ⟨i, hi, by unfold bk; rw [hu]; exact hg⟩))⟩
theorem Own.on {w w' : World} {base : Nat} {v : Value} {xs : List Value} {R : Ls} (h : Own w base v xs R) (hb : Below w.heap.size w w') : Own w' base v xs R := h.kb (S := fun _ => False) (KB.of_below hb) (fun _ _ x => x)
theorem Own.down {w : World} {B B' : Nat} {v : Value} {xs : List Value} {R : Ls} (h : Own w B v xs R) (hb : B' ≤ B) : Own w B' v xs R := by
  obtain ⟨h1, h2, h3⟩ := h
  refine ⟨⟨h1.1, ?_⟩, fun i hi => ?_, h3⟩
  · rcases h1.2 with h | ⟨gx, cap, cur, x1, x2, x3⟩
    · exact .inl h
    · exact .inr ⟨gx, cap, cur, x1, by omega, x3⟩
  · obtain ⟨y1, y2, y3, z, hz, hr⟩ := h2 i hi
    exact ⟨y1, y2, y3, z, hz, Tk1.own_down hr hb⟩

/-- How many marks the first k tasks take. -/
def tl (R : Ls) : Nat → Nat
  | 0 => 0
  | k + 1 => tl R k + ((cl R k).length + 3)
theorem tl_mono (R : Ls) {j k : Nat} (h : j ≤ k) : tl R j ≤ tl R k := by
  induction k with
  | zero => obtain rfl : j = 0 := by omega
            exact Nat.le_refl _
  | succ k ih =>
    by_cases e : j = k + 1
    · rw [e]; exact Nat.le_refl _
    · have := ih (by omega); show _ ≤ tl R k + _; omega
def mk1 (k0 : Int) (R : Ls) (i : Nat) : El := (fun j => k0 + (tl R i : Int) + ((cl R i).length : Int) + (j : Int) - 1, sq (k0 + (tl R i : Int)) (cl R i).length)
/-- The first k tasks marked. -/
def mix (k0 : Int) (R : Ls) (k : Nat) : Ls := (List.range R.length).map fun i => if i < k then mk1 k0 R i else R.getD i (fun _ => 0, [])
theorem mix_len (k0 : Int) (R : Ls) (k : Nat) : (mix k0 R k).length = R.length := by simp [mix]
theorem mix_get (k0 : Int) (R : Ls) (k i : Nat) (hi : i < R.length) : (mix k0 R k).getD i (fun _ => 0, []) = if i < k then mk1 k0 R i else R.getD i (fun _ => 0, []) := by
  unfold mix
  rw [List.getD_eq_getElem?_getD, List.getElem?_map, List.getElem?_range hi]
  rfl
theorem mix_lo {k0 : Int} {R : Ls} {k i : Nat} (hi : i < R.length) (h : i < k) : (∀ j, cz (mix k0 R k) i j = k0 + (tl R i : Int) + ((cl R i).length : Int) + (j : Int) - 1) ∧ cl (mix k0 R k) i = sq (k0 + (tl R i : Int)) (cl R i).length := by
  unfold cz cl
  rw [mix_get _ _ _ _ hi, if_pos h]
  exact ⟨fun _ => rfl, rfl⟩
theorem mix_hi {k0 : Int} {R : Ls} {k i : Nat} (hi : i < R.length) (h : k ≤ i) : (∀ j, cz (mix k0 R k) i j = cz R i j) ∧ cl (mix k0 R k) i = cl R i := by
  unfold cz cl
  rw [mix_get _ _ _ _ hi, if_neg (by omega)]
  exact ⟨fun _ => rfl, rfl⟩
theorem getD_get {α : Type} (l : List α) (i : Nat) (d : α) (h : i < l.length) : l.getD i d = l[i] := by
  rw [List.getD_eq_getElem?_getD, List.getElem?_eq_getElem h]; rfl
theorem mix_zero (k0 : Int) (R : Ls) : mix k0 R 0 = R := by
  apply List.ext_getElem (by rw [mix_len])
  intro i h1 h2
  have := mix_get k0 R 0 i h2
  rw [getD_get _ _ _ h1, if_neg (by omega), getD_get _ _ _ h2] at this
  exact this
theorem cl_mix_len (k0 : Int) (R : Ls) (k i : Nat) : (cl (mix k0 R k) i).length = (cl R i).length := by
  by_cases hi : i < R.length
  · by_cases h : i < k
    · rw [(mix_lo hi h).2, sq_len]
    · rw [(mix_hi hi (by omega)).2]
  · unfold cl
    rw [List.getD_eq_getElem?_getD, List.getElem?_eq_none (by rw [mix_len]; omega), List.getD_eq_getElem?_getD, List.getElem?_eq_none (by omega)]
theorem tl_mix (k0 : Int) (R : Ls) (k : Nat) : ∀ i, tl (mix k0 R k) i = tl R i
  | 0 => rfl
  | i + 1 => by
    show tl (mix k0 R k) i + ((cl (mix k0 R k) i).length + 3) = tl R i + ((cl R i).length + 3)
    rw [tl_mix k0 R k i, cl_mix_len]
theorem set_ne3 {xs : List Value} {k : Nat} {a b c : Value} {o : Nat} (h1 : o ≠ k * 4 + 1) (h2 : o ≠ k * 4 + 2) (h3 : o ≠ k * 4 + 3) : (((xs.set (k * 4 + 1) a).set (k * 4 + 2) b).set (k * 4 + 3) c)[o]? = xs[o]? := by
  rw [List.getElem?_set_ne (by omega), List.getElem?_set_ne (by omega), List.getElem?_set_ne (by omega)]
theorem bk_set3 (xs : List Value) (k : Nat) (a b c : Value) (i : Nat) : bk (((xs.set (k * 4 + 1) a).set (k * 4 + 2) b).set (k * 4 + 3) c) i = bk xs i := by
  unfold bk
  rw [set_ne3 (by omega) (by omega) (by omega)]

end Go.Proofs.Ytfhpomfdkpfooaa.Tm
