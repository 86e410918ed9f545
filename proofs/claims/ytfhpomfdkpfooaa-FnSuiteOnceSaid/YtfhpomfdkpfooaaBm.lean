/- RmW, Tm, Th, Jb, JbW, Ru -/
import Derived.Test.YtfhpomfdkpfooaaBa
import Derived.OwnWalk
import Derived.WalkSmall
import Derived.Laws.OwnMore
import Derived.Deep.QuietTactic
import Derived.BigQuiet
import Derived.Deep.RegionHeld3
/- Rows of int64 marked and held, with great marks. -/
namespace Go.Proofs.Ytfhpomfdkpfooaa.Lists
open Go.ChangeShapes Go.WideShapes Go.ChangeAt Go.RowKit

end Go.Proofs.Ytfhpomfdkpfooaa.Lists

/- Tasks that lie apart: marked, held. -/
namespace Go.Proofs.Ytfhpomfdkpfooaa.Tm
open Go.ChangeShapes Go.WideShapes Go.ChangeAt Go.RowKit
open Go.Proofs.Ytfhpomfdkpfooaa.Lists Go.Proofs.Ytfhpomfdkpfooaa.Tk

/-- What is as it was but for the blocks of S. -/
structure KB (S : Nat → Prop) (w w' : World) : Prop where
  os : w'.os = w.os
  tape : w'.tape = w.tape
  output : w'.output = w.output
  size : w.heap.size ≤ w'.heap.size
  block : ∀ k, k < w.heap.size → ¬ S k → w'.heap[k]? = w.heap[k]?
theorem KB.refl (S : Nat → Prop) (w : World) : KB S w w := ⟨rfl, rfl, rfl, Nat.le_refl _, fun _ _ _ => rfl⟩
theorem KB.trans {S : Nat → Prop} {w w' w'' : World} (h : KB S w w') (h' : KB S w' w'') : KB S w w'' := ⟨h'.os.trans h.os, h'.tape.trans h.tape, h'.output.trans h.output, Nat.le_trans h.size h'.size, fun k hk hn => (h'.block k (Nat.lt_of_lt_of_le hk h.size) hn).trans (h.block k hk hn)⟩
theorem KB.mono {S S' : Nat → Prop} {w w' : World} (h : KB S w w') (hs : ∀ k, S k → S' k) : KB S' w w' := ⟨h.os, h.tape, h.output, h.size, fun k hk hn => h.block k hk (fun x => hn (hs k x))⟩
theorem KB.of_grown {S : Nat → Prop} {w w' : World} {row : Option Nat} (h : w.grownBy w' row) (hs : ∀ k, row = some k → S k) : KB S w w' := ⟨h.os, h.tape, h.output, h.size, fun k hk hn => h.block k hk (fun e => hn (hs k e.symm))⟩
theorem KB.of_below {S : Nat → Prop} {w w' : World} (h : Below w.heap.size w w') : KB S w w' := ⟨h.os, h.tape, h.output, h.size, fun k hk _ => h.block k hk⟩
theorem KB.of_set {S : Nat → Prop} (w : World) (g o : Nat) (u : Value) (hs : S g) : KB S w (w.setCell ⟨g, o, none⟩ u) := KB.of_grown (grown_setCell (World.grownBy.refl w (some g)) o u) (fun k e => by simp at e; subst e; exact hs)
theorem KB.below {S : Nat → Prop} {w w' : World} {B : Nat} (h : KB S w w') (hB : B ≤ w.heap.size) (hs : ∀ k, S k → B ≤ k) : Below B w w' := ⟨h.os, h.tape, h.output, h.size, fun k hk => h.block k (by omega) (fun x => by have := hs k x; omega)⟩
theorem row_kb {S : Nat → Prop} {w w' : World} {base n k : Nat} {e : TypeId} {v : Value} {xs : List Value} (h : w.ownsRow base e k v n xs) (hb : KB S w w') (hne : ∀ g, v.ownBlock = some g → ¬ S g) : w'.ownsRow base e k v n xs := by
  refine ⟨h.1, ?_⟩
  rcases h.2 with h2 | ⟨g, cap, cur, h1, h2, h3, h4⟩
  · exact .inl h2
  · have hg : g < w.heap.size := by
      rcases Nat.lt_or_ge g w.heap.size with x | x
      · exact x
      · rw [Array.getElem?_eq_none x] at h3; cases h3
    exact .inr ⟨g, cap, cur, h1, h2, (hb.block g hg (hne g (by rw [h1]; rfl))).trans h3, h4⟩
/-- Rows of two types lie in two blocks. -/
theorem type_ne {w : World} {b1 b2 n1 n2 k1 k2 : Nat} {e1 e2 : TypeId} {v1 v2 : Value} {xs1 xs2 : List Value} (h1 : w.ownsRow b1 e1 k1 v1 n1 xs1) (h2 : w.ownsRow b2 e2 k2 v2 n2 xs2) (he : e1 ≠ e2) (g : Nat) (x1 : v1.ownBlock = some g) (x2 : v2.ownBlock = some g) : False := by
  rcases h1.2 with ⟨a, _⟩ | ⟨g1, c1, cur1, y1, _, z1, _⟩
  · rw [a] at x1; cases x1
  · rcases h2.2 with ⟨a, _⟩ | ⟨g2, c2, cur2, y2, _, z2, _⟩
    · rw [a] at x2; cases x2
    · rw [y1] at x1; rw [y2] at x2
      simp [Value.ownBlock] at x1 x2
      rw [x1] at z1; rw [x2] at z2
      rw [z1] at z2
      simp at z2
      exact he z2.2

def bk (xs : List Value) (i : Nat) : Option Nat := ((xs[i * 4]?).getD (.slice none 0 0)).ownBlock
/-- The lists of the tasks lie in blocks of their own. -/
def Rise (xs : List Value) (k : Nat) : Prop := ∀ i j a, i < j → j < k → bk xs i = some a → bk xs j ≠ some a
def Own (w : World) (base : Nat) (v : Value) (xs : List Value) (R : Ls) : Prop := w.ownsRow base 50 4 v R.length xs ∧ Tk.Good w base xs R R.length ∧ Rise xs R.length
theorem Own.row {w : World} {base : Nat} {v : Value} {xs : List Value} {R : Ls} (h : Own w base v xs R) : Tk.Row w base v R := ⟨xs, h.1, h.2.1⟩
/-- The blocks of a list of tasks. -/
def Bs (v : Value) (xs : List Value) (n : Nat) (g : Nat) : Prop := v.ownBlock = some g ∨ ∃ i, i < n ∧ bk xs i = some g
theorem Own.bs {w : World} {base : Nat} {v : Value} {xs : List Value} {R : Ls} (h : Own w base v xs R) (g : Nat) (hg : Bs v xs R.length g) : base ≤ g ∧ g < w.heap.size := by
  rcases hg with hg | ⟨i, hi, hg⟩
  · exact h.1.lt g hg
  · obtain ⟨_, _, _, u, hu, hr⟩ := h.2.1 i hi
    unfold bk at hg
    rw [hu] at hg
    exact hr.lt g hg
theorem Own.kb {S : Nat → Prop} {w w' : World} {base : Nat} {v : Value} {xs : List Value} {R : Ls} (h : Own w base v xs R) (hb : KB S w w') (hn : ∀ g, Bs v xs R.length g → ¬ S g) : Own w' base v xs R := by
  refine ⟨row_kb h.1 hb (fun g hg => hn g (.inl hg)), fun i hi => ?_, h.2.2⟩
  obtain ⟨h1, h2, h3, u, hu, hr⟩ := h.2.1 i hi
  exact ⟨h1, h2, h3, u, hu, row_kb hr hb (fun g hg => hn g (.inr ⟨i, hi, by unfold bk; rw [hu]; exact hg⟩))⟩
theorem Own.on {w w' : World} {base : Nat} {v : Value} {xs : List Value} {R : Ls} (h : Own w base v xs R) (hb : Below w.heap.size w w') : Own w' base v xs R := h.kb (S := fun _ => False) (KB.of_below hb) (fun _ _ x => x)
theorem Own.down {w : World} {B B' : Nat} {v : Value} {xs : List Value} {R : Ls} (h : Own w B v xs R) (hb : B' ≤ B) : Own w B' v xs R := by
  obtain ⟨h1, h2, h3⟩ := h
  refine ⟨⟨h1.1, ?_⟩, fun i hi => ?_, h3⟩
  · rcases h1.2 with h | ⟨gx, cap, cur, x1, x2, x3⟩
    · exact .inl h
    · exact .inr ⟨gx, cap, cur, x1, by omega, x3⟩
  · obtain ⟨y1, y2, y3, z, hz, hr⟩ := h2 i hi
    exact ⟨y1, y2, y3, z, hz, Tk1.own_down hr hb⟩

/-- How many marks the first k tasks take. -/
def tl (R : Ls) : Nat → Nat
  | 0 => 0
  | k + 1 => tl R k + ((cl R k).length + 3)
theorem tl_mono (R : Ls) {j k : Nat} (h : j ≤ k) : tl R j ≤ tl R k := by
  induction k with
  | zero => obtain rfl : j = 0 := by omega
            exact Nat.le_refl _
  | succ k ih =>
    by_cases e : j = k + 1
    · rw [e]; exact Nat.le_refl _
    · have := ih (by omega); show _ ≤ tl R k + _; omega
def mk1 (k0 : Int) (R : Ls) (i : Nat) : El := (fun j => k0 + (tl R i : Int) + ((cl R i).length : Int) + (j : Int) - 1, sq (k0 + (tl R i : Int)) (cl R i).length)
/-- The first k tasks marked. -/
def mix (k0 : Int) (R : Ls) (k : Nat) : Ls := (List.range R.length).map fun i => if i < k then mk1 k0 R i else R.getD i (fun _ => 0, [])
theorem mix_len (k0 : Int) (R : Ls) (k : Nat) : (mix k0 R k).length = R.length := by simp [mix]
theorem mix_get (k0 : Int) (R : Ls) (k i : Nat) (hi : i < R.length) : (mix k0 R k).getD i (fun _ => 0, []) = if i < k then mk1 k0 R i else R.getD i (fun _ => 0, []) := by
  unfold mix
  rw [List.getD_eq_getElem?_getD, List.getElem?_map, List.getElem?_range hi]
  rfl
theorem mix_lo {k0 : Int} {R : Ls} {k i : Nat} (hi : i < R.length) (h : i < k) : (∀ j, cz (mix k0 R k) i j = k0 + (tl R i : Int) + ((cl R i).length : Int) + (j : Int) - 1) ∧ cl (mix k0 R k) i = sq (k0 + (tl R i : Int)) (cl R i).length := by
  unfold cz cl
  rw [mix_get _ _ _ _ hi, if_pos h]
  exact ⟨fun _ => rfl, rfl⟩
theorem mix_hi {k0 : Int} {R : Ls} {k i : Nat} (hi : i < R.length) (h : k ≤ i) : (∀ j, cz (mix k0 R k) i j = cz R i j) ∧ cl (mix k0 R k) i = cl R i := by
  unfold cz cl
  rw [mix_get _ _ _ _ hi, if_neg (by omega)]
  exact ⟨fun _ => rfl, rfl⟩
theorem getD_get {α : Type} (l : List α) (i : Nat) (d : α) (h : i < l.length) : l.getD i d = l[i] := by
  rw [List.getD_eq_getElem?_getD, List.getElem?_eq_getElem h]; rfl
theorem mix_zero (k0 : Int) (R : Ls) : mix k0 R 0 = R := by
  apply List.ext_getElem (by rw [mix_len])
  intro i h1 h2
  have := mix_get k0 R 0 i h2
  rw [getD_get _ _ _ h1, if_neg (by omega), getD_get _ _ _ h2] at this
  exact this
theorem cl_mix_len (k0 : Int) (R : Ls) (k i : Nat) : (cl (mix k0 R k) i).length = (cl R i).length := by
  by_cases hi : i < R.length
  · by_cases h : i < k
    · rw [(mix_lo hi h).2, sq_len]
    · rw [(mix_hi hi (by omega)).2]
  · unfold cl
    rw [List.getD_eq_getElem?_getD, List.getElem?_eq_none (by rw [mix_len]; omega), List.getD_eq_getElem?_getD, List.getElem?_eq_none (by omega)]
theorem tl_mix (k0 : Int) (R : Ls) (k : Nat) : ∀ i, tl (mix k0 R k) i = tl R i
  | 0 => rfl
  | i + 1 => by
    show tl (mix k0 R k) i + ((cl (mix k0 R k) i).length + 3) = tl R i + ((cl R i).length + 3)
    rw [tl_mix k0 R k i, cl_mix_len]
theorem set_ne3 {xs : List Value} {k : Nat} {a b c : Value} {o : Nat} (h1 : o ≠ k * 4 + 1) (h2 : o ≠ k * 4 + 2) (h3 : o ≠ k * 4 + 3) : (((xs.set (k * 4 + 1) a).set (k * 4 + 2) b).set (k * 4 + 3) c)[o]? = xs[o]? := by
  rw [List.getElem?_set_ne (by omega), List.getElem?_set_ne (by omega), List.getElem?_set_ne (by omega)]
theorem bk_set3 (xs : List Value) (k : Nat) (a b c : Value) (i : Nat) : bk (((xs.set (k * 4 + 1) a).set (k * 4 + 2) b).set (k * 4 + 3) c) i = bk xs i := by
  unfold bk
  rw [set_ne3 (by omega) (by omega) (by omega)]

end Go.Proofs.Ytfhpomfdkpfooaa.Tm

/- Tasks that hold their marks; tasks copied, their lists apart. -/
namespace Go.Proofs.Ytfhpomfdkpfooaa.Tm
open Go.ChangeShapes Go.WideShapes Go.ChangeAt Go.RowKit
open Go.Proofs.Ytfhpomfdkpfooaa.Lists Go.Proofs.Ytfhpomfdkpfooaa.Tk

theorem rows_at {w : World} {v : Value} {L : Ls} (h : Tk.Reads w v L) : ∃ b o, (∀ i, i < L.length → Tk.Cs w b o L i) ∧ (0 < L.length → b < w.heap.size ∧ ∃ cap, v = .slice (some ⟨b, o, none⟩) L.length cap) := by
  rcases h with ⟨rfl, _⟩ | ⟨b, o, cap, h1, h2, h3, h4, h5⟩
  · exact ⟨0, 0, fun i hi => by simp at hi, fun hi => by simp at hi⟩
  · exact ⟨b, o, h5, fun _ => ⟨h4, cap, h1⟩⟩

end Go.Proofs.Ytfhpomfdkpfooaa.Tm

/- Lists of structs of 2 numbers (ii): read, compared, copied, marked, held. -/
namespace Go.Proofs.Ytfhpomfdkpfooaa.Jb
open Go.ChangeShapes Go.WideShapes Go.ChangeAt Go.RowKit
theorem run_store_float {P : Program} (w : World) (a : Addr) (m : Mode) (k : FloatKind) (b : Nat) : (store a (.float k b) m).run P w = stored P w a (.float k b) m := run_store P w a _ m rfl
attribute [local go_sem] run_store_float

abbrev Ls := List (Int × Int)
def c0 (L : Ls) (i : Nat) : Int := (L.getD i (0, 0)).1
def c1 (L : Ls) (i : Nat) : Int := (L.getD i (0, 0)).2
def Cs (w : World) (b o : Nat) (L : Ls) (i : Nat) : Prop := w.cell? ⟨b, o + i * 2, none⟩ = some (.int .i64 (c0 L i)) ∧ w.cell? ⟨b, o + i * 2 + 1, none⟩ = some (.int .i64 (c1 L i))
def Reads (w : World) (v : Value) (L : Ls) : Prop :=
  (L = [] ∧ ∃ a cap, v = .slice a 0 cap) ∨ ∃ b o cap, v = .slice (some ⟨b, o, none⟩) L.length cap ∧ L.length ≤ cap ∧ cap ≤ maxLen ∧ b < w.heap.size ∧ ∀ i, i < L.length → Cs w b o L i
theorem Cs.below {w w' : World} {b o B : Nat} {L : Ls} {i : Nat} (h : Cs w b o L i) (hb : Below B w w') (hB : b < B) : Cs w' b o L i := by
  obtain ⟨h0, h1⟩ := h
  exact ⟨(hb.cell (p := ⟨b, o + i * 2, none⟩) hB).trans h0, (hb.cell (p := ⟨b, o + i * 2 + 1, none⟩) hB).trans h1⟩
theorem Reads.below {w w' : World} {v : Value} {L : Ls} {B : Nat} (h : Reads w v L) (hb : Below B w w') (hB : w.heap.size ≤ B) : Reads w' v L := by
  rcases h with h | ⟨b, o, cap, h1, h2, h3, h4, h5⟩
  · exact Or.inl h
  · exact Or.inr ⟨b, o, cap, h1, h2, h3, Nat.lt_of_lt_of_le h4 hb.size, fun i hi => (h5 i hi).below hb (by omega)⟩
theorem Reads.on {w w' : World} {v : Value} {L : Ls} (h : Reads w v L) (hb : Below w.heap.size w w') : Reads w' v L := h.below hb (Nat.le_refl _)
theorem Reads.form {w : World} {v : Value} {L : Ls} (h : Reads w v L) : ∃ a cap, v = .slice a L.length cap := by
  rcases h with ⟨rfl, a, cap, rfl⟩ | ⟨b, o, cap, rfl, _⟩
  · exact ⟨_, _, rfl⟩
  · exact ⟨_, _, rfl⟩
theorem Reads.fits {w : World} {v : Value} {L : Ls} (h : Reads w v L) : L.length < 9223372036854775808 := by
  rcases h with ⟨rfl, _⟩ | ⟨b, o, c, _, h1, h2, _⟩
  · decide
  · unfold maxLen at h2; omega

def Good (xs : List Value) (L : Ls) (j : Nat) : Prop := ∀ i, i < j → xs[i * 2]? = some (.int .i64 (c0 L i)) ∧ xs[i * 2 + 1]? = some (.int .i64 (c1 L i))
theorem Good.next {xs : List Value} {L : Ls} {j : Nat} (h : Good xs L j) (hl : j * 2 + 1 < xs.length) : Good ((xs.set (j * 2) (.int .i64 (c0 L j))).set (j * 2 + 1) (.int .i64 (c1 L j))) L (j + 1) := by
  intro i hi
  by_cases e : i = j
  · subst e
    refine ⟨?_, ?_⟩
    · rw [List.getElem?_set_ne (by omega), List.getElem?_set_self (by first | omega | (simp; omega))]
    · rw [List.getElem?_set_self (by first | omega | (simp; omega))]
  · obtain ⟨h0, h1⟩ := h i (by omega)
    refine ⟨?_, ?_⟩
    · rw [List.getElem?_set_ne (by omega), List.getElem?_set_ne (by omega)]; exact h0
    · rw [List.getElem?_set_ne (by omega), List.getElem?_set_ne (by omega)]; exact h1

def Row (w : World) (base : Nat) (v : Value) (L : Ls) : Prop := ∃ xs, w.ownsRow base 34 2 v L.length xs ∧ Good xs L L.length
theorem row_cases {w : World} {base n : Nat} {e : TypeId} {k : Nat} {v : Value} {xs : List Value} (h : w.ownsRow base e k v n xs) :
    (n = 0 ∧ v = .slice none 0 0) ∨ ∃ g cap, v = .slice (some ⟨g, 0, none⟩) n cap ∧ base ≤ g ∧ g < w.heap.size ∧ n ≤ cap ∧ cap ≤ maxLen := by
  obtain ⟨h0, h⟩ := h
  rcases h with ⟨rfl, hn⟩ | ⟨g, cap, cur, rfl, hb, hh, hc, hm, _⟩
  · exact Or.inl ⟨hn, rfl⟩
  · refine Or.inr ⟨g, cap, rfl, hb, ?_, hc, hm⟩
    by_cases x : g < w.heap.size
    · exact x
    · rw [Array.getElem?_eq_none (by omega)] at hh; cases hh
theorem Row.reads {w : World} {base : Nat} {v : Value} {L : Ls} (h : Row w base v L) : Reads w v L := by
  obtain ⟨xs, h, hg⟩ := h
  rcases row_cases h with ⟨hn, rfl⟩ | ⟨g, cap, rfl, _, h2, h3, h4⟩
  · exact Or.inl ⟨List.eq_nil_of_length_eq_zero hn, _, _, rfl⟩
  · refine Or.inr ⟨g, 0, cap, rfl, h3, h4, h2, fun i hi => ?_⟩
    obtain ⟨h10, h11⟩ := hg i hi
    refine ⟨?_, ?_⟩
    · rw [Nat.zero_add, h.cellAt (i * 2) (by omega)]; exact h10
    · rw [Nat.zero_add, h.cellAt (i * 2 + 1) (by omega)]; exact h11
theorem row_below {B : Nat} {e : TypeId} {k : Nat} {v : Value} {n : Nat} {xs : List Value} {w w' : World} (h : w.ownsRow B e k v n xs) (hb : Below w.heap.size w w') : w'.ownsRow B e k v n xs := by
  refine ⟨h.1, ?_⟩
  rcases h.2 with h2 | ⟨g, cap, cur, h1, h2, h3, h4⟩
  · exact .inl h2
  · have hg : g < w.heap.size := by
      rcases Nat.lt_or_ge g w.heap.size with x | x
      · exact x
      · rw [Array.getElem?_eq_none x] at h3; cases h3
    exact .inr ⟨g, cap, cur, h1, h2, (hb.block g hg).trans h3, h4⟩
theorem row_grown {w w' : World} {base n k : Nat} {e : TypeId} {v : Value} {xs : List Value} {row : Option Nat} (h : w.ownsRow base e k v n xs) (hg : w.grownBy w' row) (hne : ∀ g, v.ownBlock = some g → row ≠ some g) : w'.ownsRow base e k v n xs := by
  refine ⟨h.1, ?_⟩
  rcases h.2 with h2 | ⟨g, cap, cur, h1, h2, h3, h4⟩
  · exact .inl h2
  · have hlt : g < w.heap.size := by
      rcases Nat.lt_or_ge g w.heap.size with x | x
      · exact x
      · rw [Array.getElem?_eq_none x] at h3; cases h3
    exact .inr ⟨g, cap, cur, h1, h2, (hg.block g hlt (fun e => hne g (by rw [h1]; rfl) e.symm)).trans h3, h4⟩
theorem Row.on {w w' : World} {base : Nat} {v : Value} {L : Ls} (h : Row w base v L) (hb : Below w.heap.size w w') : Row w' base v L := by
  obtain ⟨xs, h, hg⟩ := h
  exact ⟨xs, row_below h hb, hg⟩
theorem Row.grown {w w' : World} {base : Nat} {v : Value} {L : Ls} {row : Option Nat} (h : Row w base v L) (hb : w.grownBy w' row) (hne : ∀ g, v.ownBlock = some g → row ≠ some g) : Row w' base v L := by
  obtain ⟨xs, h, hg⟩ := h
  exact ⟨xs, row_grown h hb hne, hg⟩
theorem Row.lt {w : World} {base : Nat} {v : Value} {L : Ls} (h : Row w base v L) (g : Nat) (hg : v.ownBlock = some g) : base ≤ g ∧ g < w.heap.size := by
  obtain ⟨xs, h, _⟩ := h
  exact h.lt g hg
theorem Row.form {w : World} {base : Nat} {v : Value} {L : Ls} (h : Row w base v L) : ∃ a c, v = .slice a L.length c := h.reads.form
theorem grown_setCell {w w1 : World} {g : Nat} (h : w.grownBy w1 (some g)) (o : Nat) (u : Value) : w.grownBy (w1.setCell ⟨g, o, none⟩ u) (some g) := by
  refine ⟨h.os, h.tape, h.output, ?_, ?_⟩
  · have := ((Below.refl 0 w1).setCell (p := ⟨g, o, none⟩) (Nat.zero_le _) u).size
    exact Nat.le_trans h.size this
  · intro k hk hne
    rw [Below.heap_setCell w1 ⟨g, o, none⟩ u k (fun e => hne (by rw [e]))]
    exact h.block k hk hne

theorem good_snoc {xs : List Value} {C : Ls} {z0 : Int} {z1 : Int} (h : Good xs C C.length) (hl : xs.length = C.length * 2) : Good (xs ++ [.int .i64 z0, .int .i64 z1]) (C ++ [(z0, z1)]) (C ++ [(z0, z1)]).length := by
  intro i hi
  simp at hi
  by_cases e : i = C.length
  · subst e
    have q0 : c0 (C ++ [(z0, z1)]) C.length = z0 := by simp [c0]
    have q1 : c1 (C ++ [(z0, z1)]) C.length = z1 := by simp [c1]
    rw [q0, q1]
    refine ⟨?_, ?_⟩
    · rw [List.getElem?_append_right (by omega)]; simp [hl]
    · rw [List.getElem?_append_right (by omega), show C.length * 2 + 1 - xs.length = 1 by omega]; rfl
  · have hi' : i < C.length := by omega
    have q : (C ++ [(z0, z1)]).getD i (0, 0) = C.getD i (0, 0) := by simp [List.getD_eq_getElem?_getD, List.getElem?_append_left hi']
    have q0 : c0 (C ++ [(z0, z1)]) i = c0 C i := by unfold c0; rw [q]
    have q1 : c1 (C ++ [(z0, z1)]) i = c1 C i := by unfold c1; rw [q]
    rw [q0, q1]
    obtain ⟨h0, h1⟩ := h i hi'
    refine ⟨?_, ?_⟩
    · rw [List.getElem?_append_left (by omega)]; exact h0
    · rw [List.getElem?_append_left (by omega)]; exact h1
theorem cell_news (w : World) (v0 : Value) (v1 : Value) (t : TypeId) : ∀ j u, [v0, v1][j]? = some u → (w.alloc (Obj.cells #[v0, v1] t)).cell? ((⟨w.heap.size, 0, none⟩ : Addr).add j) = some u := by
  intro j u hj
  match j, hj with
  | 0, hj => simp at hj; subst hj; simp [Addr.add]
  | 1, hj => simp at hj; subst hj; simp [Addr.add]
def mks (n : Nat) : Ls := (List.range n).map fun (i : Nat) => (1 + (i : Int) * 2, 1 + (i : Int) * 2 + 1)
theorem mks_len (n : Nat) : (mks n).length = n := by simp [mks]
theorem mks_at (n i : Nat) (h : i < n) : c0 (mks n) i = 1 + (i : Int) * 2 ∧ c1 (mks n) i = 1 + (i : Int) * 2 + 1 := by
  simp [c0, c1, mks, List.getD_eq_getElem?_getD, h]
end Go.Proofs.Ytfhpomfdkpfooaa.Jb

/- Jobs marked and held from any mark on. -/
namespace Go.Proofs.Ytfhpomfdkpfooaa.Jb
open Go.ChangeShapes Go.WideShapes Go.ChangeAt Go.RowKit

def mkw (k0 : Int) (n : Nat) : Ls := (List.range n).map fun (i : Nat) => (k0 + (i : Int) * 2, k0 + (i : Int) * 2 + 1)
theorem mkw_len (k0 : Int) (n : Nat) : (mkw k0 n).length = n := by simp [mkw]
theorem mkw_at (k0 : Int) (n i : Nat) (h : i < n) : c0 (mkw k0 n) i = k0 + (i : Int) * 2 ∧ c1 (mkw k0 n) i = k0 + (i : Int) * 2 + 1 := by
  simp [c0, c1, mkw, List.getD_eq_getElem?_getD, h]
end Go.Proofs.Ytfhpomfdkpfooaa.Jb

/- Runs (a suite, a time, jobs): compared, marked, held. -/
namespace Go.Proofs.Ytfhpomfdkpfooaa.Ru
open Go.ChangeShapes Go.WideShapes Go.ChangeAt Go.RowKit
open Go.Proofs.Ytfhpomfdkpfooaa.Lists Go.Proofs.Ytfhpomfdkpfooaa.Tm

abbrev rv (r x : Value) (n : Int) (j : Value) : Value := .agg #[r, x, .int .i64 n, j]
def RR (w : World) (r x j : Value) (R : Tk.Ls) (X : List Int) (J : Jb.Ls) : Prop := Tk.Reads w r R ∧ Lists.Reads w x X ∧ Jb.Reads w j J
theorem RR.on {w w' : World} {r x j : Value} {R : Tk.Ls} {X : List Int} {J : Jb.Ls} (h : RR w r x j R X J) (hb : Below w.heap.size w w') : RR w' r x j R X J := ⟨h.1.on hb, h.2.1.on hb, h.2.2.on hb⟩
/-- A suite whose lists lie apart. -/
def SO (w : World) (base : Nat) (r x : Value) (xs : List Value) (R : Tk.Ls) (X : List Int) : Prop := Own w base r xs R ∧ w.ownsRow base 2 1 x X.length (ints X) ∧ ∀ i a, i < R.length → bk xs i = some a → x.ownBlock ≠ some a
def SB (r x : Value) (xs : List Value) (n : Nat) (g : Nat) : Prop := Bs r xs n g ∨ x.ownBlock = some g
theorem SO.reads {w : World} {base : Nat} {r x : Value} {xs : List Value} {R : Tk.Ls} {X : List Int} (h : SO w base r x xs R X) : Tk.Reads w r R ∧ Lists.Reads w x X := ⟨h.1.row.reads, Lists.reads_row h.2.1⟩
theorem SO.kb {S : Nat → Prop} {w w' : World} {base : Nat} {r x : Value} {xs : List Value} {R : Tk.Ls} {X : List Int} (h : SO w base r x xs R X) (hb : KB S w w') (hn : ∀ g, SB r x xs R.length g → ¬ S g) : SO w' base r x xs R X :=
  ⟨h.1.kb hb (fun g hg => hn g (.inl hg)), row_kb h.2.1 hb (fun g hg => hn g (.inr hg)), h.2.2⟩
theorem SO.on {w w' : World} {base : Nat} {r x : Value} {xs : List Value} {R : Tk.Ls} {X : List Int} (h : SO w base r x xs R X) (hb : Below w.heap.size w w') : SO w' base r x xs R X := h.kb (S := fun _ => False) (KB.of_below hb) (fun _ _ y => y)
theorem SO.bs {w : World} {base : Nat} {r x : Value} {xs : List Value} {R : Tk.Ls} {X : List Int} (h : SO w base r x xs R X) (g : Nat) (hg : SB r x xs R.length g) : base ≤ g ∧ g < w.heap.size := by
  rcases hg with hg | hg
  · exact h.1.bs g hg
  · exact h.2.1.lt g hg
/-- A run whose lists lie apart. -/
def RO (w : World) (base : Nat) (r x j : Value) (xs : List Value) (R : Tk.Ls) (X : List Int) (J : Jb.Ls) : Prop := SO w base r x xs R X ∧ Jb.Row w base j J
def RB (r x j : Value) (xs : List Value) (n : Nat) (g : Nat) : Prop := SB r x xs n g ∨ j.ownBlock = some g
theorem jrow_kb {S : Nat → Prop} {w w' : World} {base : Nat} {j : Value} {J : Jb.Ls} (h : Jb.Row w base j J) (hb : KB S w w') (hn : ∀ g, j.ownBlock = some g → ¬ S g) : Jb.Row w' base j J := by
  obtain ⟨ys, h1, h2⟩ := h
  exact ⟨ys, row_kb h1 hb hn, h2⟩
theorem RO.kb {S : Nat → Prop} {w w' : World} {base : Nat} {r x j : Value} {xs : List Value} {R : Tk.Ls} {X : List Int} {J : Jb.Ls} (h : RO w base r x j xs R X J) (hb : KB S w w') (hn : ∀ g, RB r x j xs R.length g → ¬ S g) : RO w' base r x j xs R X J :=
  ⟨h.1.kb hb (fun g hg => hn g (.inl hg)), jrow_kb h.2 hb (fun g hg => hn g (.inr hg))⟩
theorem RO.on {w w' : World} {base : Nat} {r x j : Value} {xs : List Value} {R : Tk.Ls} {X : List Int} {J : Jb.Ls} (h : RO w base r x j xs R X J) (hb : Below w.heap.size w w') : RO w' base r x j xs R X J := h.kb (S := fun _ => False) (KB.of_below hb) (fun _ _ y => y)
theorem RO.bs {w : World} {base : Nat} {r x j : Value} {xs : List Value} {R : Tk.Ls} {X : List Int} {J : Jb.Ls} (h : RO w base r x j xs R X J) (g : Nat) (hg : RB r x j xs R.length g) : base ≤ g ∧ g < w.heap.size := by
  rcases hg with hg | hg
  · exact h.1.bs g hg
  · obtain ⟨ys, h1, _⟩ := h.2
    exact h1.lt g hg
theorem RO.reads {w : World} {base : Nat} {r x j : Value} {xs : List Value} {R : Tk.Ls} {X : List Int} {J : Jb.Ls} (h : RO w base r x j xs R X J) : RR w r x j R X J := ⟨h.1.reads.1, h.1.reads.2, h.2.reads⟩
def Box (w : World) (b : Nat) (v0 v1 v2 v3 : Value) : Prop := w.cell? ⟨b, 0, none⟩ = some v0 ∧ w.cell? ⟨b, 1, none⟩ = some v1 ∧ w.cell? ⟨b, 2, none⟩ = some v2 ∧ w.cell? ⟨b, 3, none⟩ = some v3
theorem Box.on {w w' : World} {B b : Nat} {v0 v1 v2 v3 : Value} (h : Box w b v0 v1 v2 v3) (hb : Below B w w') (hg : b < B) : Box w' b v0 v1 v2 v3 := by
  obtain ⟨h0, h1, h2, h3⟩ := h
  exact ⟨(hb.cell (p := ⟨b, 0, none⟩) hg).trans h0, (hb.cell (p := ⟨b, 1, none⟩) hg).trans h1, (hb.cell (p := ⟨b, 2, none⟩) hg).trans h2, (hb.cell (p := ⟨b, 3, none⟩) hg).trans h3⟩
theorem cell_kb {S : Nat → Prop} {w w' : World} (hb : KB S w w') {b o : Nat} (hl : b < w.heap.size) (hn : ¬ S b) : w'.cell? ⟨b, o, none⟩ = w.cell? ⟨b, o, none⟩ := World.cell?_of_block (a := ⟨b, o, none⟩) (hb.block b hl hn)
theorem Box.kb {S : Nat → Prop} {w w' : World} {b : Nat} {v0 v1 v2 v3 : Value} (h : Box w b v0 v1 v2 v3) (hb : KB S w w') (hl : b < w.heap.size) (hn : ¬ S b) : Box w' b v0 v1 v2 v3 := by
  obtain ⟨h0, h1, h2, h3⟩ := h
  exact ⟨(cell_kb hb hl hn).trans h0, (cell_kb hb hl hn).trans h1, (cell_kb hb hl hn).trans h2, (cell_kb hb hl hn).trans h3⟩

end Go.Proofs.Ytfhpomfdkpfooaa.Ru
