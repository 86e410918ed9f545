/- Lists of structs of 9 numbers (iiiiiissi): read, compared, copied, marked, held. -/
import Derived.Test.YtoaabdmbgemkjaaGreatDoorSl
import Derived.OwnWalk
import Derived.OneCell
import Derived.Deep.Cut
import Derived.Deep.DeepCutAuto
import Derived.WalkSmall
import Derived.Laws.OwnMore
import Derived.Deep.QuietTactic
import Derived.BigQuiet
import Derived.Deep.RegionHeld3
namespace Go.Proofs.YtoaabdmbgemkjaaGreatDoor.Ch
open Go.ChangeShapes Go.WideShapes Go.ChangeAt Go.RowKit
theorem run_store_float {P : Program} (w : World) (a : Addr) (m : Mode) (k : FloatKind) (b : Nat) : (store a (.float k b) m).run P w = stored P w a (.float k b) m := run_store P w a _ m rfl
attribute [local go_sem] run_store_float

abbrev Ls := List (Int × Int × Int × Int × Int × Int × ByteArray × ByteArray × Int)
def c0 (L : Ls) (i : Nat) : Int := (L.getD i (0, 0, 0, 0, 0, 0, ⟨#[]⟩, ⟨#[]⟩, 0)).1
def c1 (L : Ls) (i : Nat) : Int := (L.getD i (0, 0, 0, 0, 0, 0, ⟨#[]⟩, ⟨#[]⟩, 0)).2.1
def c2 (L : Ls) (i : Nat) : Int := (L.getD i (0, 0, 0, 0, 0, 0, ⟨#[]⟩, ⟨#[]⟩, 0)).2.2.1
def c3 (L : Ls) (i : Nat) : Int := (L.getD i (0, 0, 0, 0, 0, 0, ⟨#[]⟩, ⟨#[]⟩, 0)).2.2.2.1
def c4 (L : Ls) (i : Nat) : Int := (L.getD i (0, 0, 0, 0, 0, 0, ⟨#[]⟩, ⟨#[]⟩, 0)).2.2.2.2.1
def c5 (L : Ls) (i : Nat) : Int := (L.getD i (0, 0, 0, 0, 0, 0, ⟨#[]⟩, ⟨#[]⟩, 0)).2.2.2.2.2.1
def c6 (L : Ls) (i : Nat) : ByteArray := (L.getD i (0, 0, 0, 0, 0, 0, ⟨#[]⟩, ⟨#[]⟩, 0)).2.2.2.2.2.2.1
def c7 (L : Ls) (i : Nat) : ByteArray := (L.getD i (0, 0, 0, 0, 0, 0, ⟨#[]⟩, ⟨#[]⟩, 0)).2.2.2.2.2.2.2.1
def c8 (L : Ls) (i : Nat) : Int := (L.getD i (0, 0, 0, 0, 0, 0, ⟨#[]⟩, ⟨#[]⟩, 0)).2.2.2.2.2.2.2.2
def Cs (w : World) (b o : Nat) (L : Ls) (i : Nat) : Prop := w.cell? ⟨b, o + i * 9, none⟩ = some (.int .i64 (c0 L i)) ∧ w.cell? ⟨b, o + i * 9 + 1, none⟩ = some (.int .i64 (c1 L i)) ∧ w.cell? ⟨b, o + i * 9 + 2, none⟩ = some (.int .i64 (c2 L i)) ∧ w.cell? ⟨b, o + i * 9 + 3, none⟩ = some (.int .i64 (c3 L i)) ∧ w.cell? ⟨b, o + i * 9 + 4, none⟩ = some (.int .i64 (c4 L i)) ∧ w.cell? ⟨b, o + i * 9 + 5, none⟩ = some (.int .i64 (c5 L i)) ∧ w.cell? ⟨b, o + i * 9 + 6, none⟩ = some (.string (c6 L i)) ∧ w.cell? ⟨b, o + i * 9 + 7, none⟩ = some (.string (c7 L i)) ∧ w.cell? ⟨b, o + i * 9 + 8, none⟩ = some (.int .i64 (c8 L i))
def Reads (w : World) (v : Value) (L : Ls) : Prop :=
  (L = [] ∧ ∃ a cap, v = .slice a 0 cap) ∨ ∃ b o cap, v = .slice (some ⟨b, o, none⟩) L.length cap ∧ L.length ≤ cap ∧ cap ≤ maxLen ∧ b < w.heap.size ∧ ∀ i, i < L.length → Cs w b o L i
theorem Cs.below {w w' : World} {b o B : Nat} {L : Ls} {i : Nat} (h : Cs w b o L i) (hb : Below B w w') (hB : b < B) : Cs w' b o L i := by
  obtain ⟨h0, h1, h2, h3, h4, h5, h6, h7, h8⟩ := h
  exact ⟨(hb.cell (p := ⟨b, o + i * 9, none⟩) hB).trans h0, (hb.cell (p := ⟨b, o + i * 9 + 1, none⟩) hB).trans h1, (hb.cell (p := ⟨b, o + i * 9 + 2, none⟩) hB).trans h2, (hb.cell (p := ⟨b, o + i * 9 + 3, none⟩) hB).trans h3, (hb.cell (p := ⟨b, o + i * 9 + 4, none⟩) hB).trans h4, (hb.cell (p := ⟨b, o + i * 9 + 5, none⟩) hB).trans h5, (hb.cell (p := ⟨b, o + i * 9 + 6, none⟩) hB).trans h6, (hb.cell (p := ⟨b, o + i * 9 + 7, none⟩) hB).trans h7, (hb.cell (p := ⟨b, o + i * 9 + 8, none⟩) hB).trans h8⟩
theorem Reads.below {w w' : World} {v : Value} {L : Ls} {B : Nat} (h : Reads w v L) (hb : Below B w w') (hB : w.heap.size ≤ B) : Reads w' v L := by
  rcases h with h | ⟨b, o, cap, h1, h2, h3, h4, h5⟩
  · exact Or.inl h
  · exact Or.inr ⟨b, o, cap, h1, h2, h3, Nat.lt_of_lt_of_le h4 hb.size, fun i hi => (h5 i hi).below hb (by omega)⟩
theorem Reads.on {w w' : World} {v : Value} {L : Ls} (h : Reads w v L) (hb : Below w.heap.size w w') : Reads w' v L := h.below hb (Nat.le_refl _)
theorem Reads.form {w : World} {v : Value} {L : Ls} (h : Reads w v L) : ∃ a cap, v = .slice a L.length cap := by
  rcases h with ⟨rfl, a, cap, rfl⟩ | ⟨b, o, cap, rfl, _⟩
  · exact ⟨_, _, rfl⟩
  · exact ⟨_, _, rfl⟩
theorem Reads.fits {w : World} {v : Value} {L : Ls} (h : Reads w v L) : L.length < 9223372036854775808 := by
  rcases h with ⟨rfl, _⟩ | ⟨b, o, c, _, h1, h2, _⟩
  · decide
  · unfold maxLen at h2; omega

def Good (xs : List Value) (L : Ls) (j : Nat) : Prop := ∀ i, i < j → xs[i * 9]? = some (.int .i64 (c0 L i)) ∧ xs[i * 9 + 1]? = some (.int .i64 (c1 L i)) ∧ xs[i * 9 + 2]? = some (.int .i64 (c2 L i)) ∧ xs[i * 9 + 3]? = some (.int .i64 (c3 L i)) ∧ xs[i * 9 + 4]? = some (.int .i64 (c4 L i)) ∧ xs[i * 9 + 5]? = some (.int .i64 (c5 L i)) ∧ xs[i * 9 + 6]? = some (.string (c6 L i)) ∧ xs[i * 9 + 7]? = some (.string (c7 L i)) ∧ xs[i * 9 + 8]? = some (.int .i64 (c8 L i))
theorem Good.next {xs : List Value} {L : Ls} {j : Nat} (h : Good xs L j) (hl : j * 9 + 8 < xs.length) : Good (((((((((xs.set (j * 9) (.int .i64 (c0 L j))).set (j * 9 + 1) (.int .i64 (c1 L j))).set (j * 9 + 2) (.int .i64 (c2 L j))).set (j * 9 + 3) (.int .i64 (c3 L j))).set (j * 9 + 4) (.int .i64 (c4 L j))).set (j * 9 + 5) (.int .i64 (c5 L j))).set (j * 9 + 6) (.string (c6 L j))).set (j * 9 + 7) (.string (c7 L j))).set (j * 9 + 8) (.int .i64 (c8 L j))) L (j + 1) := by
  intro i hi
  by_cases e : i = j
  · subst e
    refine ⟨?_, ?_, ?_, ?_, ?_, ?_, ?_, ?_, ?_⟩
    · rw [List.getElem?_set_ne (by omega), List.getElem?_set_ne (by omega), List.getElem?_set_ne (by omega), List.getElem?_set_ne (by omega), List.getElem?_set_ne (by omega), List.getElem?_set_ne (by omega), List.getElem?_set_ne (by omega), List.getElem?_set_ne (by omega), List.getElem?_set_self (by first | omega | (simp; omega))]
    · rw [List.getElem?_set_ne (by omega), List.getElem?_set_ne (by omega), List.getElem?_set_ne (by omega), List.getElem?_set_ne (by omega), List.getElem?_set_ne (by omega), List.getElem?_set_ne (by omega), List.getElem?_set_ne (by omega), List.getElem?_set_self (by first | omega | (simp; omega))]
    · rw [List.getElem?_set_ne (by omega), List.getElem?_set_ne (by omega), List.getElem?_set_ne (by omega), List.getElem?_set_ne (by omega), List.getElem?_set_ne (by omega), List.getElem?_set_ne (by omega), List.getElem?_set_self (by first | omega | (simp; omega))]
    · rw [List.getElem?_set_ne (by omega), List.getElem?_set_ne (by omega), List.getElem?_set_ne (by omega), List.getElem?_set_ne (by omega), List.getElem?_set_ne (by omega), List.getElem?_set_self (by first | omega | (simp; omega))]
    · rw [List.getElem?_set_ne (by omega), List.getElem?_set_ne (by omega), List.getElem?_set_ne (by omega), List.getElem?_set_ne (by omega), List.getElem?_set_self (by first | omega | (simp; omega))]
    · rw [List.getElem?_set_ne (by omega), List.getElem?_set_ne (by omega), List.getElem?_set_ne (by omega), List.getElem?_set_self (by first | omega | (simp; omega))]
    · rw [List.getElem?_set_ne (by omega), List.getElem?_set_ne (by omega), List.getElem?_set_self (by first | omega | (simp; omega))]
    · rw [List.getElem?_set_ne (by omega), List.getElem?_set_self (by first | omega | (simp; omega))]
    · rw [List.getElem?_set_self (by first | omega | (simp; omega))]
  · obtain ⟨h0, h1, h2, h3, h4, h5, h6, h7, h8⟩ := h i (by omega)
    refine ⟨?_, ?_, ?_, ?_, ?_, ?_, ?_, ?_, ?_⟩
    · rw [List.getElem?_set_ne (by omega), List.getElem?_set_ne (by omega), List.getElem?_set_ne (by omega), List.getElem?_set_ne (by omega), List.getElem?_set_ne (by omega), List.getElem?_set_ne (by omega), List.getElem?_set_ne (by omega), List.getElem?_set_ne (by omega), List.getElem?_set_ne (by omega)]; exact h0
    · rw [List.getElem?_set_ne (by omega), List.getElem?_set_ne (by omega), List.getElem?_set_ne (by omega), List.getElem?_set_ne (by omega), List.getElem?_set_ne (by omega), List.getElem?_set_ne (by omega), List.getElem?_set_ne (by omega), List.getElem?_set_ne (by omega), List.getElem?_set_ne (by omega)]; exact h1
    · rw [List.getElem?_set_ne (by omega), List.getElem?_set_ne (by omega), List.getElem?_set_ne (by omega), List.getElem?_set_ne (by omega), List.getElem?_set_ne (by omega), List.getElem?_set_ne (by omega), List.getElem?_set_ne (by omega), List.getElem?_set_ne (by omega), List.getElem?_set_ne (by omega)]; exact h2
    · rw [List.getElem?_set_ne (by omega), List.getElem?_set_ne (by omega), List.getElem?_set_ne (by omega), List.getElem?_set_ne (by omega), List.getElem?_set_ne (by omega), List.getElem?_set_ne (by omega), List.getElem?_set_ne (by omega), List.getElem?_set_ne (by omega), List.getElem?_set_ne (by omega)]; exact h3
    · rw [List.getElem?_set_ne (by omega), List.getElem?_set_ne (by omega), List.getElem?_set_ne (by omega), List.getElem?_set_ne (by omega), List.getElem?_set_ne (by omega), List.getElem?_set_ne (by omega), List.getElem?_set_ne (by omega), List.getElem?_set_ne (by omega), List.getElem?_set_ne (by omega)]; exact h4
    · rw [List.getElem?_set_ne (by omega), List.getElem?_set_ne (by omega), List.getElem?_set_ne (by omega), List.getElem?_set_ne (by omega), List.getElem?_set_ne (by omega), List.getElem?_set_ne (by omega), List.getElem?_set_ne (by omega), List.getElem?_set_ne (by omega), List.getElem?_set_ne (by omega)]; exact h5
    · rw [List.getElem?_set_ne (by omega), List.getElem?_set_ne (by omega), List.getElem?_set_ne (by omega), List.getElem?_set_ne (by omega), List.getElem?_set_ne (by omega), List.getElem?_set_ne (by omega), List.getElem?_set_ne (by omega), List.getElem?_set_ne (by omega), List.getElem?_set_ne (by omega)]; exact h6
    · rw [List.getElem?_set_ne (by omega), List.getElem?_set_ne (by omega), List.getElem?_set_ne (by omega), List.getElem?_set_ne (by omega), List.getElem?_set_ne (by omega), List.getElem?_set_ne (by omega), List.getElem?_set_ne (by omega), List.getElem?_set_ne (by omega), List.getElem?_set_ne (by omega)]; exact h7
    · rw [List.getElem?_set_ne (by omega), List.getElem?_set_ne (by omega), List.getElem?_set_ne (by omega), List.getElem?_set_ne (by omega), List.getElem?_set_ne (by omega), List.getElem?_set_ne (by omega), List.getElem?_set_ne (by omega), List.getElem?_set_ne (by omega), List.getElem?_set_ne (by omega)]; exact h8

def Row (w : World) (base : Nat) (v : Value) (L : Ls) : Prop := ∃ xs, w.ownsRow base 47 9 v L.length xs ∧ Good xs L L.length
theorem row_cases {w : World} {base n : Nat} {e : TypeId} {k : Nat} {v : Value} {xs : List Value} (h : w.ownsRow base e k v n xs) :
    (n = 0 ∧ v = .slice none 0 0) ∨ ∃ g cap, v = .slice (some ⟨g, 0, none⟩) n cap ∧ base ≤ g ∧ g < w.heap.size ∧ n ≤ cap ∧ cap ≤ maxLen := by
  obtain ⟨h0, h⟩ := h
  rcases h with ⟨rfl, hn⟩ | ⟨g, cap, cur, rfl, hb, hh, hc, hm, _⟩
  · exact Or.inl ⟨hn, rfl⟩
  · refine Or.inr ⟨g, cap, rfl, hb, ?_, hc, hm⟩
    by_cases x : g < w.heap.size
    · exact x
    · rw [Array.getElem?_eq_none (by omega)] at hh; cases hh
theorem Row.reads {w : World} {base : Nat} {v : Value} {L : Ls} (h : Row w base v L) : Reads w v L := by
  obtain ⟨xs, h, hg⟩ := h
  rcases row_cases h with ⟨hn, rfl⟩ | ⟨g, cap, rfl, _, h2, h3, h4⟩
  · exact Or.inl ⟨List.eq_nil_of_length_eq_zero hn, _, _, rfl⟩
  · refine Or.inr ⟨g, 0, cap, rfl, h3, h4, h2, fun i hi => ?_⟩
    obtain ⟨h10, h11, h12, h13, h14, h15, h16, h17, h18⟩ := hg i hi
    refine ⟨?_, ?_, ?_, ?_, ?_, ?_, ?_, ?_, ?_⟩
    · rw [Nat.zero_add, h.cellAt (i * 9) (by omega)]; exact h10
    · rw [Nat.zero_add, h.cellAt (i * 9 + 1) (by omega)]; exact h11
    · rw [Nat.zero_add, h.cellAt (i * 9 + 2) (by omega)]; exact h12
    · rw [Nat.zero_add, h.cellAt (i * 9 + 3) (by omega)]; exact h13
    · rw [Nat.zero_add, h.cellAt (i * 9 + 4) (by omega)]; exact h14
    · rw [Nat.zero_add, h.cellAt (i * 9 + 5) (by omega)]; exact h15
    · rw [Nat.zero_add, h.cellAt (i * 9 + 6) (by omega)]; exact h16
    · rw [Nat.zero_add, h.cellAt (i * 9 + 7) (by omega)]; exact h17
    · rw [Nat.zero_add, h.cellAt (i * 9 + 8) (by omega)]; exact h18
theorem row_below {B : Nat} {e : TypeId} {k : Nat} {v : Value} {n : Nat} {xs : List Value} {w w' : World} (h : w.ownsRow B e k v n xs) (hb : Below w.heap.size w w') : w'.ownsRow B e k v n xs := by
  refine ⟨h.1, ?_⟩
  rcases h.2 with h2 | ⟨g, cap, cur, h1, h2, h3, h4⟩
  · exact .inl h2
  · have hg : g < w.heap.size := by
      rcases Nat.lt_or_ge g w.heap.size with x | x
      · exact x
      · rw [Array.getElem?_eq_none x] at h3; cases h3
    exact .inr ⟨g, cap, cur, h1, h2, (hb.block g hg).trans h3, h4⟩
theorem row_grown {w w' : World} {base n k : Nat} {e : TypeId} {v : Value} {xs : List Value} {row : Option Nat} (h : w.ownsRow base e k v n xs) (hg : w.grownBy w' row) (hne : ∀ g, v.ownBlock = some g → row ≠ some g) : w'.ownsRow base e k v n xs := by
  refine ⟨h.1, ?_⟩
  rcases h.2 with h2 | ⟨g, cap, cur, h1, h2, h3, h4⟩
  · exact .inl h2
  · have hlt : g < w.heap.size := by
      rcases Nat.lt_or_ge g w.heap.size with x | x
      · exact x
      · rw [Array.getElem?_eq_none x] at h3; cases h3
    exact .inr ⟨g, cap, cur, h1, h2, (hg.block g hlt (fun e => hne g (by rw [h1]; rfl) e.symm)).trans h3, h4⟩
theorem Row.on {w w' : World} {base : Nat} {v : Value} {L : Ls} (h : Row w base v L) (hb : Below w.heap.size w w') : Row w' base v L := by
  obtain ⟨xs, h, hg⟩ := h
  exact ⟨xs, row_below h hb, hg⟩
theorem Row.grown {w w' : World} {base : Nat} {v : Value} {L : Ls} {row : Option Nat} (h : Row w base v L) (hb : w.grownBy w' row) (hne : ∀ g, v.ownBlock = some g → row ≠ some g) : Row w' base v L := by
  obtain ⟨xs, h, hg⟩ := h
  exact ⟨xs, row_grown h hb hne, hg⟩
theorem Row.lt {w : World} {base : Nat} {v : Value} {L : Ls} (h : Row w base v L) (g : Nat) (hg : v.ownBlock = some g) : base ≤ g ∧ g < w.heap.size := by
  obtain ⟨xs, h, _⟩ := h
  exact h.lt g hg
theorem Row.form {w : World} {base : Nat} {v : Value} {L : Ls} (h : Row w base v L) : ∃ a c, v = .slice a L.length c := h.reads.form
theorem grown_setCell {w w1 : World} {g : Nat} (h : w.grownBy w1 (some g)) (o : Nat) (u : Value) : w.grownBy (w1.setCell ⟨g, o, none⟩ u) (some g) := by
  refine ⟨h.os, h.tape, h.output, ?_, ?_⟩
  · have := ((Below.refl 0 w1).setCell (p := ⟨g, o, none⟩) (Nat.zero_le _) u).size
    exact Nat.le_trans h.size this
  · intro k hk hne
    rw [Below.heap_setCell w1 ⟨g, o, none⟩ u k (fun e => hne (by rw [e]))]
    exact h.block k hk hne

theorem good_snoc {xs : List Value} {C : Ls} {z0 : Int} {z1 : Int} {z2 : Int} {z3 : Int} {z4 : Int} {z5 : Int} {z6 : ByteArray} {z7 : ByteArray} {z8 : Int} (h : Good xs C C.length) (hl : xs.length = C.length * 9) : Good (xs ++ [.int .i64 z0, .int .i64 z1, .int .i64 z2, .int .i64 z3, .int .i64 z4, .int .i64 z5, .string z6, .string z7, .int .i64 z8]) (C ++ [(z0, z1, z2, z3, z4, z5, z6, z7, z8)]) (C ++ [(z0, z1, z2, z3, z4, z5, z6, z7, z8)]).length := by
  intro i hi
  simp at hi
  by_cases e : i = C.length
  · subst e
    have q0 : c0 (C ++ [(z0, z1, z2, z3, z4, z5, z6, z7, z8)]) C.length = z0 := by simp [c0]
    have q1 : c1 (C ++ [(z0, z1, z2, z3, z4, z5, z6, z7, z8)]) C.length = z1 := by simp [c1]
    have q2 : c2 (C ++ [(z0, z1, z2, z3, z4, z5, z6, z7, z8)]) C.length = z2 := by simp [c2]
    have q3 : c3 (C ++ [(z0, z1, z2, z3, z4, z5, z6, z7, z8)]) C.length = z3 := by simp [c3]
    have q4 : c4 (C ++ [(z0, z1, z2, z3, z4, z5, z6, z7, z8)]) C.length = z4 := by simp [c4]
    have q5 : c5 (C ++ [(z0, z1, z2, z3, z4, z5, z6, z7, z8)]) C.length = z5 := by simp [c5]
    have q6 : c6 (C ++ [(z0, z1, z2, z3, z4, z5, z6, z7, z8)]) C.length = z6 := by simp [c6]
    have q7 : c7 (C ++ [(z0, z1, z2, z3, z4, z5, z6, z7, z8)]) C.length = z7 := by simp [c7]
    have q8 : c8 (C ++ [(z0, z1, z2, z3, z4, z5, z6, z7, z8)]) C.length = z8 := by simp [c8]
    rw [q0, q1, q2, q3, q4, q5, q6, q7, q8]
    refine ⟨?_, ?_, ?_, ?_, ?_, ?_, ?_, ?_, ?_⟩
    · rw [List.getElem?_append_right (by omega)]; simp [hl]
    · rw [List.getElem?_append_right (by omega), show C.length * 9 + 1 - xs.length = 1 by omega]; rfl
    · rw [List.getElem?_append_right (by omega), show C.length * 9 + 2 - xs.length = 2 by omega]; rfl
    · rw [List.getElem?_append_right (by omega), show C.length * 9 + 3 - xs.length = 3 by omega]; rfl
    · rw [List.getElem?_append_right (by omega), show C.length * 9 + 4 - xs.length = 4 by omega]; rfl
    · rw [List.getElem?_append_right (by omega), show C.length * 9 + 5 - xs.length = 5 by omega]; rfl
    · rw [List.getElem?_append_right (by omega), show C.length * 9 + 6 - xs.length = 6 by omega]; rfl
    · rw [List.getElem?_append_right (by omega), show C.length * 9 + 7 - xs.length = 7 by omega]; rfl
    · rw [List.getElem?_append_right (by omega), show C.length * 9 + 8 - xs.length = 8 by omega]; rfl
  · have hi' : i < C.length := by omega
    have q : (C ++ [(z0, z1, z2, z3, z4, z5, z6, z7, z8)]).getD i (0, 0, 0, 0, 0, 0, ⟨#[]⟩, ⟨#[]⟩, 0) = C.getD i (0, 0, 0, 0, 0, 0, ⟨#[]⟩, ⟨#[]⟩, 0) := by simp [List.getD_eq_getElem?_getD, List.getElem?_append_left hi']
    have q0 : c0 (C ++ [(z0, z1, z2, z3, z4, z5, z6, z7, z8)]) i = c0 C i := by unfold c0; rw [q]
    have q1 : c1 (C ++ [(z0, z1, z2, z3, z4, z5, z6, z7, z8)]) i = c1 C i := by unfold c1; rw [q]
    have q2 : c2 (C ++ [(z0, z1, z2, z3, z4, z5, z6, z7, z8)]) i = c2 C i := by unfold c2; rw [q]
    have q3 : c3 (C ++ [(z0, z1, z2, z3, z4, z5, z6, z7, z8)]) i = c3 C i := by unfold c3; rw [q]
    have q4 : c4 (C ++ [(z0, z1, z2, z3, z4, z5, z6, z7, z8)]) i = c4 C i := by unfold c4; rw [q]
    have q5 : c5 (C ++ [(z0, z1, z2, z3, z4, z5, z6, z7, z8)]) i = c5 C i := by unfold c5; rw [q]
    have q6 : c6 (C ++ [(z0, z1, z2, z3, z4, z5, z6, z7, z8)]) i = c6 C i := by unfold c6; rw [q]
    have q7 : c7 (C ++ [(z0, z1, z2, z3, z4, z5, z6, z7, z8)]) i = c7 C i := by unfold c7; rw [q]
    have q8 : c8 (C ++ [(z0, z1, z2, z3, z4, z5, z6, z7, z8)]) i = c8 C i := by unfold c8; rw [q]
    rw [q0, q1, q2, q3, q4, q5, q6, q7, q8]
    obtain ⟨h0, h1, h2, h3, h4, h5, h6, h7, h8⟩ := h i hi'
    refine ⟨?_, ?_, ?_, ?_, ?_, ?_, ?_, ?_, ?_⟩
    · rw [List.getElem?_append_left (by omega)]; exact h0
    · rw [List.getElem?_append_left (by omega)]; exact h1
    · rw [List.getElem?_append_left (by omega)]; exact h2
    · rw [List.getElem?_append_left (by omega)]; exact h3
    · rw [List.getElem?_append_left (by omega)]; exact h4
    · rw [List.getElem?_append_left (by omega)]; exact h5
    · rw [List.getElem?_append_left (by omega)]; exact h6
    · rw [List.getElem?_append_left (by omega)]; exact h7
    · rw [List.getElem?_append_left (by omega)]; exact h8
theorem cell_news (w : World) (v0 : Value) (v1 : Value) (v2 : Value) (v3 : Value) (v4 : Value) (v5 : Value) (v6 : Value) (v7 : Value) (v8 : Value) (t : TypeId) : ∀ j u, [v0, v1, v2, v3, v4, v5, v6, v7, v8][j]? = some u → (w.alloc (Obj.cells #[v0, v1, v2, v3, v4, v5, v6, v7, v8] t)).cell? ((⟨w.heap.size, 0, none⟩ : Addr).add j) = some u := by
  intro j u hj
  match j, hj with
  | 0, hj => simp at hj; subst hj; simp [Addr.add]
  | 1, hj => simp at hj; subst hj; simp [Addr.add]
  | 2, hj => simp at hj; subst hj; simp [Addr.add]
  | 3, hj => simp at hj; subst hj; simp [Addr.add]
  | 4, hj => simp at hj; subst hj; simp [Addr.add]
  | 5, hj => simp at hj; subst hj; simp [Addr.add]
  | 6, hj => simp at hj; subst hj; simp [Addr.add]
  | 7, hj => simp at hj; subst hj; simp [Addr.add]
  | 8, hj => simp at hj; subst hj; simp [Addr.add]
set_option maxHeartbeats 1000000 in
theorem eq1_any (x0 x1 x2 x3 x4 x5 : Int) (x6 x7 : ByteArray) (x8 : Int) (w : World) : Calls Tryz.prog 54 #[.agg #[.int .i64 x0, .int .i64 x1, .int .i64 x2, .int .i64 x3, .int .i64 x4, .int .i64 x5, .string x6, .string x7, .int .i64 x8], .agg #[.int .i64 x0, .int .i64 x1, .int .i64 x2, .int .i64 x3, .int .i64 x4, .int .i64 x5, .string x6, .string x7, .int .i64 x8]] w fun e w' => e = .returned (.bool true) ∧ Below w.heap.size w w' := by
  have C : Hid (∀ w, Calls Tryz.prog 27 #[Sk.sk x3 x4 x5 x6 x7 x8, Sk.sk x3 x4 x5 x6 x7 x8] w fun e w' => e = .returned (.bool true) ∧ Below w.heap.size w w') := fun w => Sk.eq_any _ _ _ _ _ _ w
  have hii : ∀ b : Int, (b != b) = false := fun b => by simp
  have B0 : Hid (Below w.heap.size w ((w.alloc (Obj.cells #[.int .i64 x0, .int .i64 x1, .int .i64 x2, .int .i64 x3, .int .i64 x4, .int .i64 x5, .string x6, .string x7, .int .i64 x8] 47)).alloc (Obj.cells #[.int .i64 x0, .int .i64 x1, .int .i64 x2, .int .i64 x3, .int .i64 x4, .int .i64 x5, .string x6, .string x7, .int .i64 x8] 47))) := ((Below.refl _ _).alloc (Nat.le_refl _) _).alloc (by simp) _
  go_enter Tryz.func54, Tryz.ntmps54
  go_wp2_with fail
  refine (C.out _).mono ?_
  rintro e w1 ⟨rfl, hb⟩
  have B1 : Hid (Below w.heap.size w w1) := B0.out.trans (hb.mono B0.out.size)
  clear hb
  go_wp2_with fail
  go_ret
  exact ⟨rfl, B1.out⟩
set_option maxHeartbeats 1000000 in
theorem eq_zero (w : World) (a1 a2 : Option Addr) (d1 d2 : Nat) : Calls Tryz.prog 28 #[.slice a1 0 d1, .slice a2 0 d2] w fun e w' => e = .returned (.bool true) ∧ Below w.heap.size w w' := by
  go_enter Tryz.func28, Tryz.ntmps28
  go_wp2
  go_loop [5] (fun i => i = .int .i64 0) (fun _ => 0)
  case atStart => rfl
  case round =>
    subst hrel
    go_wp2
    go_ret
    exact ⟨rfl, Below.refl _ _⟩
set_option maxHeartbeats 1000000 in
theorem eq_same (w : World) (v1 v2 : Value) (L : Ls) (h1 : Reads w v1 L) (h2 : Reads w v2 L) :
    Calls Tryz.prog 28 #[v1, v2] w fun e w' => e = .returned (.bool true) ∧ Below w.heap.size w w' := by
  by_cases hL : L = []
  · subst hL
    obtain ⟨a, cap, rfl⟩ := h1.form
    obtain ⟨a2, cap2, rfl⟩ := h2.form
    exact eq_zero w _ _ _ _
  · rcases h1 with ⟨e, _⟩ | ⟨b1, o1, d1, rfl, x1, x2, x3, x4⟩
    · exact absurd e hL
    rcases h2 with ⟨e, _⟩ | ⟨b2, o2, d2, rfl, y1, y2, y3, y4⟩
    · exact absurd e hL
    have K1 : Hid (b1 < w.heap.size ∧ ∀ i, i < L.length → Cs w b1 o1 L i) := ⟨x3, x4⟩
    have K2 : Hid (b2 < w.heap.size ∧ ∀ i, i < L.length → Cs w b2 o2 L i) := ⟨y3, y4⟩
    obtain ⟨n, hn⟩ : ∃ n, n = L.length := ⟨_, rfl⟩
    rw [← hn] at x1 y1 ⊢
    have HN : Hid (n = L.length) := hn
    unfold maxLen at x2 y2
    clear x4 y4 hn hL
    go_enter Tryz.func28, Tryz.ntmps28
    go_wp2
    go_loopw [5] (fun i wr => ∃ k : Nat, k ≤ n ∧ i = .int .i64 k ∧ Hid (Below w.heap.size w wr)) (fun i _ => n - (intOf i).toNat)
    case atStart => exact ⟨0, Nat.zero_le _, rfl, Below.refl _ _⟩
    case round =>
      obtain ⟨k, hk, rfl, BR⟩ := hrel
      by_cases hlt : k < n
      · have i0 : (0 : Int) ≤ (k : Int) := by omega
        have i1 : (k : Int) < (n : Int) := by omega
        obtain ⟨q0, q1, q2, q3, q4, q5, q6, q7, q8⟩ : Cs wr b1 o1 L k := (K1.out.2 k (by rw [← HN.out]; exact hlt)).below BR.out K1.out.1
        obtain ⟨r0, r1, r2, r3, r4, r5, r6, r7, r8⟩ : Cs wr b2 o2 L k := (K2.out.2 k (by rw [← HN.out]; exact hlt)).below BR.out K2.out.1
        generalize c0 L k = u0 at *
        generalize c1 L k = u1 at *
        generalize c2 L k = u2 at *
        generalize c3 L k = u3 at *
        generalize c4 L k = u4 at *
        generalize c5 L k = u5 at *
        generalize c6 L k = u6 at *
        generalize c7 L k = u7 at *
        generalize c8 L k = u8 at *
        go_wp2_with fail
        go_region_held3 (fun w' => w'.cell? ⟨b1, o1 + k * 9, none⟩ = some (.int .i64 u0) ∧ w'.cell? ⟨b1, o1 + k * 9 + 1, none⟩ = some (.int .i64 u1) ∧ w'.cell? ⟨b1, o1 + k * 9 + 2, none⟩ = some (.int .i64 u2) ∧ w'.cell? ⟨b1, o1 + k * 9 + 3, none⟩ = some (.int .i64 u3) ∧ w'.cell? ⟨b1, o1 + k * 9 + 4, none⟩ = some (.int .i64 u4) ∧ w'.cell? ⟨b1, o1 + k * 9 + 5, none⟩ = some (.int .i64 u5) ∧ w'.cell? ⟨b1, o1 + k * 9 + 6, none⟩ = some (.string u6) ∧ w'.cell? ⟨b1, o1 + k * 9 + 7, none⟩ = some (.string u7) ∧ w'.cell? ⟨b1, o1 + k * 9 + 8, none⟩ = some (.int .i64 u8) ∧ w'.cell? ⟨b2, o2 + k * 9, none⟩ = some (.int .i64 u0) ∧ w'.cell? ⟨b2, o2 + k * 9 + 1, none⟩ = some (.int .i64 u1) ∧ w'.cell? ⟨b2, o2 + k * 9 + 2, none⟩ = some (.int .i64 u2) ∧ w'.cell? ⟨b2, o2 + k * 9 + 3, none⟩ = some (.int .i64 u3) ∧ w'.cell? ⟨b2, o2 + k * 9 + 4, none⟩ = some (.int .i64 u4) ∧ w'.cell? ⟨b2, o2 + k * 9 + 5, none⟩ = some (.int .i64 u5) ∧ w'.cell? ⟨b2, o2 + k * 9 + 6, none⟩ = some (.string u6) ∧ w'.cell? ⟨b2, o2 + k * 9 + 7, none⟩ = some (.string u7) ∧ w'.cell? ⟨b2, o2 + k * 9 + 8, none⟩ = some (.int .i64 u8)) (go_keep)
          (first
          | (go_at_call 54; refine (eq1_any _ _ _ _ _ _ _ _ _ _).mono ?_; rintro e w1 ⟨rfl, hb1⟩; have B1 := BR.out.drew.trans (hb1.mono BR.out.size); have k1 := K1.out.1; have k2 := K2.out.1; have s0 := (hb1.cell (p := ⟨b1, o1 + k * 9, none⟩) (Nat.lt_of_lt_of_le k1 BR.out.size)).trans q0; have s1 := (hb1.cell (p := ⟨b1, o1 + k * 9 + 1, none⟩) (Nat.lt_of_lt_of_le k1 BR.out.size)).trans q1; have s2 := (hb1.cell (p := ⟨b1, o1 + k * 9 + 2, none⟩) (Nat.lt_of_lt_of_le k1 BR.out.size)).trans q2; have s3 := (hb1.cell (p := ⟨b1, o1 + k * 9 + 3, none⟩) (Nat.lt_of_lt_of_le k1 BR.out.size)).trans q3; have s4 := (hb1.cell (p := ⟨b1, o1 + k * 9 + 4, none⟩) (Nat.lt_of_lt_of_le k1 BR.out.size)).trans q4; have s5 := (hb1.cell (p := ⟨b1, o1 + k * 9 + 5, none⟩) (Nat.lt_of_lt_of_le k1 BR.out.size)).trans q5; have s6 := (hb1.cell (p := ⟨b1, o1 + k * 9 + 6, none⟩) (Nat.lt_of_lt_of_le k1 BR.out.size)).trans q6; have s7 := (hb1.cell (p := ⟨b1, o1 + k * 9 + 7, none⟩) (Nat.lt_of_lt_of_le k1 BR.out.size)).trans q7; have s8 := (hb1.cell (p := ⟨b1, o1 + k * 9 + 8, none⟩) (Nat.lt_of_lt_of_le k1 BR.out.size)).trans q8; have t0 := (hb1.cell (p := ⟨b2, o2 + k * 9, none⟩) (Nat.lt_of_lt_of_le k2 BR.out.size)).trans r0; have t1 := (hb1.cell (p := ⟨b2, o2 + k * 9 + 1, none⟩) (Nat.lt_of_lt_of_le k2 BR.out.size)).trans r1; have t2 := (hb1.cell (p := ⟨b2, o2 + k * 9 + 2, none⟩) (Nat.lt_of_lt_of_le k2 BR.out.size)).trans r2; have t3 := (hb1.cell (p := ⟨b2, o2 + k * 9 + 3, none⟩) (Nat.lt_of_lt_of_le k2 BR.out.size)).trans r3; have t4 := (hb1.cell (p := ⟨b2, o2 + k * 9 + 4, none⟩) (Nat.lt_of_lt_of_le k2 BR.out.size)).trans r4; have t5 := (hb1.cell (p := ⟨b2, o2 + k * 9 + 5, none⟩) (Nat.lt_of_lt_of_le k2 BR.out.size)).trans r5; have t6 := (hb1.cell (p := ⟨b2, o2 + k * 9 + 6, none⟩) (Nat.lt_of_lt_of_le k2 BR.out.size)).trans r6; have t7 := (hb1.cell (p := ⟨b2, o2 + k * 9 + 7, none⟩) (Nat.lt_of_lt_of_le k2 BR.out.size)).trans r7; have t8 := (hb1.cell (p := ⟨b2, o2 + k * 9 + 8, none⟩) (Nat.lt_of_lt_of_le k2 BR.out.size)).trans r8))
        go_wp2_with fail
        go_roundw
        case rel => exact ⟨k + 1, by omega, by go_num, B1⟩
        case measure => simp [intOf]; omega
      · go_wp2
        go_ret
        exact ⟨rfl, BR.out⟩

/-- a change's block -/
def CB (w : World) (r : Nat) (x0 x1 x2 x3 x4 x5 : Int) (x6 x7 : ByteArray) (x8 : Int) : Prop := w.heap[r]? = some (.cells #[.int .i64 x0, .int .i64 x1, .int .i64 x2, .int .i64 x3, .int .i64 x4, .int .i64 x5, .string x6, .string x7, .int .i64 x8] 47 (0, 0))
theorem CB.lt {w : World} {r : Nat} {x0 x1 x2 x3 x4 x5 : Int} {x6 x7 : ByteArray} {x8 : Int} (h : CB w r x0 x1 x2 x3 x4 x5 x6 x7 x8) : r < w.heap.size := lt_of_block h
theorem CB.on {w w' : World} {B r : Nat} {x0 x1 x2 x3 x4 x5 : Int} {x6 x7 : ByteArray} {x8 : Int} (h : CB w r x0 x1 x2 x3 x4 x5 x6 x7 x8) (hb : Below B w w') (hr : r < B) : CB w' r x0 x1 x2 x3 x4 x5 x6 x7 x8 := (hb.block r hr).trans h
theorem CB.new (w : World) (x0 x1 x2 x3 x4 x5 : Int) (x6 x7 : ByteArray) (x8 : Int) : CB (w.alloc (.cells #[.int .i64 x0, .int .i64 x1, .int .i64 x2, .int .i64 x3, .int .i64 x4, .int .i64 x5, .string x6, .string x7, .int .i64 x8] 47)) w.heap.size x0 x1 x2 x3 x4 x5 x6 x7 x8 := heap_alloc_new w _
theorem CB.keep {w : World} {r : Nat} {x0 x1 x2 x3 x4 x5 : Int} {x6 x7 : ByteArray} {x8 : Int} (h : CB w r x0 x1 x2 x3 x4 x5 x6 x7 x8) {r' : Nat} (hne : r ≠ r') (o : Nat) (x : Value) : CB (w.setCell ⟨r', o, none⟩ x) r x0 x1 x2 x3 x4 x5 x6 x7 x8 := (Below.heap_setCell w ⟨r', o, none⟩ x r hne).trans h
theorem CB.cells {w : World} {r : Nat} {x0 x1 x2 x3 x4 x5 : Int} {x6 x7 : ByteArray} {x8 : Int} (h : CB w r x0 x1 x2 x3 x4 x5 x6 x7 x8) : w.cell? ⟨r, 0, none⟩ = some (.int .i64 x0) ∧ w.cell? ⟨r, 1, none⟩ = some (.int .i64 x1) ∧ w.cell? ⟨r, 2, none⟩ = some (.int .i64 x2) ∧ w.cell? ⟨r, 3, none⟩ = some (.int .i64 x3) ∧ w.cell? ⟨r, 4, none⟩ = some (.int .i64 x4) ∧ w.cell? ⟨r, 5, none⟩ = some (.int .i64 x5) ∧ w.cell? ⟨r, 6, none⟩ = some (.string x6) ∧ w.cell? ⟨r, 7, none⟩ = some (.string x7) ∧ w.cell? ⟨r, 8, none⟩ = some (.int .i64 x8) ∧ ∀ o, w.frozen? ⟨r, o, none⟩ = false := by
  unfold CB at h
  simp [World.cell?, World.frozen?, h]
theorem CB.s0 {w : World} {r : Nat} {x0 x1 x2 x3 x4 x5 : Int} {x6 x7 : ByteArray} {x8 : Int} (h : CB w r x0 x1 x2 x3 x4 x5 x6 x7 x8) (z : Int) : CB (w.setCell ⟨r, 0, none⟩ (.int .i64 z)) r z x1 x2 x3 x4 x5 x6 x7 x8 := by
  have hlt := h.lt
  unfold CB at h ⊢
  have h' : w.heap[r] = .cells #[.int .i64 x0, .int .i64 x1, .int .i64 x2, .int .i64 x3, .int .i64 x4, .int .i64 x5, .string x6, .string x7, .int .i64 x8] 47 (0, 0) := by simpa [Array.getElem?_eq_getElem hlt] using h
  show (w.heap.modify r _)[r]? = _
  rw [Array.getElem?_eq_getElem (by simpa using hlt), Array.getElem_modify_self, h']
  rfl
theorem CB.s1 {w : World} {r : Nat} {x0 x1 x2 x3 x4 x5 : Int} {x6 x7 : ByteArray} {x8 : Int} (h : CB w r x0 x1 x2 x3 x4 x5 x6 x7 x8) (z : Int) : CB (w.setCell ⟨r, 1, none⟩ (.int .i64 z)) r x0 z x2 x3 x4 x5 x6 x7 x8 := by
  have hlt := h.lt
  unfold CB at h ⊢
  have h' : w.heap[r] = .cells #[.int .i64 x0, .int .i64 x1, .int .i64 x2, .int .i64 x3, .int .i64 x4, .int .i64 x5, .string x6, .string x7, .int .i64 x8] 47 (0, 0) := by simpa [Array.getElem?_eq_getElem hlt] using h
  show (w.heap.modify r _)[r]? = _
  rw [Array.getElem?_eq_getElem (by simpa using hlt), Array.getElem_modify_self, h']
  rfl
theorem CB.s2 {w : World} {r : Nat} {x0 x1 x2 x3 x4 x5 : Int} {x6 x7 : ByteArray} {x8 : Int} (h : CB w r x0 x1 x2 x3 x4 x5 x6 x7 x8) (z : Int) : CB (w.setCell ⟨r, 2, none⟩ (.int .i64 z)) r x0 x1 z x3 x4 x5 x6 x7 x8 := by
  have hlt := h.lt
  unfold CB at h ⊢
  have h' : w.heap[r] = .cells #[.int .i64 x0, .int .i64 x1, .int .i64 x2, .int .i64 x3, .int .i64 x4, .int .i64 x5, .string x6, .string x7, .int .i64 x8] 47 (0, 0) := by simpa [Array.getElem?_eq_getElem hlt] using h
  show (w.heap.modify r _)[r]? = _
  rw [Array.getElem?_eq_getElem (by simpa using hlt), Array.getElem_modify_self, h']
  rfl
theorem CB.s3 {w : World} {r : Nat} {x0 x1 x2 x3 x4 x5 : Int} {x6 x7 : ByteArray} {x8 : Int} (h : CB w r x0 x1 x2 x3 x4 x5 x6 x7 x8) (z : Int) : CB (w.setCell ⟨r, 3, none⟩ (.int .i64 z)) r x0 x1 x2 z x4 x5 x6 x7 x8 := by
  have hlt := h.lt
  unfold CB at h ⊢
  have h' : w.heap[r] = .cells #[.int .i64 x0, .int .i64 x1, .int .i64 x2, .int .i64 x3, .int .i64 x4, .int .i64 x5, .string x6, .string x7, .int .i64 x8] 47 (0, 0) := by simpa [Array.getElem?_eq_getElem hlt] using h
  show (w.heap.modify r _)[r]? = _
  rw [Array.getElem?_eq_getElem (by simpa using hlt), Array.getElem_modify_self, h']
  rfl
theorem CB.s4 {w : World} {r : Nat} {x0 x1 x2 x3 x4 x5 : Int} {x6 x7 : ByteArray} {x8 : Int} (h : CB w r x0 x1 x2 x3 x4 x5 x6 x7 x8) (z : Int) : CB (w.setCell ⟨r, 4, none⟩ (.int .i64 z)) r x0 x1 x2 x3 z x5 x6 x7 x8 := by
  have hlt := h.lt
  unfold CB at h ⊢
  have h' : w.heap[r] = .cells #[.int .i64 x0, .int .i64 x1, .int .i64 x2, .int .i64 x3, .int .i64 x4, .int .i64 x5, .string x6, .string x7, .int .i64 x8] 47 (0, 0) := by simpa [Array.getElem?_eq_getElem hlt] using h
  show (w.heap.modify r _)[r]? = _
  rw [Array.getElem?_eq_getElem (by simpa using hlt), Array.getElem_modify_self, h']
  rfl
theorem CB.s5 {w : World} {r : Nat} {x0 x1 x2 x3 x4 x5 : Int} {x6 x7 : ByteArray} {x8 : Int} (h : CB w r x0 x1 x2 x3 x4 x5 x6 x7 x8) (z : Int) : CB (w.setCell ⟨r, 5, none⟩ (.int .i64 z)) r x0 x1 x2 x3 x4 z x6 x7 x8 := by
  have hlt := h.lt
  unfold CB at h ⊢
  have h' : w.heap[r] = .cells #[.int .i64 x0, .int .i64 x1, .int .i64 x2, .int .i64 x3, .int .i64 x4, .int .i64 x5, .string x6, .string x7, .int .i64 x8] 47 (0, 0) := by simpa [Array.getElem?_eq_getElem hlt] using h
  show (w.heap.modify r _)[r]? = _
  rw [Array.getElem?_eq_getElem (by simpa using hlt), Array.getElem_modify_self, h']
  rfl
theorem CB.s6 {w : World} {r : Nat} {x0 x1 x2 x3 x4 x5 : Int} {x6 x7 : ByteArray} {x8 : Int} (h : CB w r x0 x1 x2 x3 x4 x5 x6 x7 x8) (z : ByteArray) : CB (w.setCell ⟨r, 6, none⟩ (.string z)) r x0 x1 x2 x3 x4 x5 z x7 x8 := by
  have hlt := h.lt
  unfold CB at h ⊢
  have h' : w.heap[r] = .cells #[.int .i64 x0, .int .i64 x1, .int .i64 x2, .int .i64 x3, .int .i64 x4, .int .i64 x5, .string x6, .string x7, .int .i64 x8] 47 (0, 0) := by simpa [Array.getElem?_eq_getElem hlt] using h
  show (w.heap.modify r _)[r]? = _
  rw [Array.getElem?_eq_getElem (by simpa using hlt), Array.getElem_modify_self, h']
  rfl
theorem CB.s7 {w : World} {r : Nat} {x0 x1 x2 x3 x4 x5 : Int} {x6 x7 : ByteArray} {x8 : Int} (h : CB w r x0 x1 x2 x3 x4 x5 x6 x7 x8) (z : ByteArray) : CB (w.setCell ⟨r, 7, none⟩ (.string z)) r x0 x1 x2 x3 x4 x5 x6 z x8 := by
  have hlt := h.lt
  unfold CB at h ⊢
  have h' : w.heap[r] = .cells #[.int .i64 x0, .int .i64 x1, .int .i64 x2, .int .i64 x3, .int .i64 x4, .int .i64 x5, .string x6, .string x7, .int .i64 x8] 47 (0, 0) := by simpa [Array.getElem?_eq_getElem hlt] using h
  show (w.heap.modify r _)[r]? = _
  rw [Array.getElem?_eq_getElem (by simpa using hlt), Array.getElem_modify_self, h']
  rfl
theorem CB.s8 {w : World} {r : Nat} {x0 x1 x2 x3 x4 x5 : Int} {x6 x7 : ByteArray} {x8 : Int} (h : CB w r x0 x1 x2 x3 x4 x5 x6 x7 x8) (z : Int) : CB (w.setCell ⟨r, 8, none⟩ (.int .i64 z)) r x0 x1 x2 x3 x4 x5 x6 x7 z := by
  have hlt := h.lt
  unfold CB at h ⊢
  have h' : w.heap[r] = .cells #[.int .i64 x0, .int .i64 x1, .int .i64 x2, .int .i64 x3, .int .i64 x4, .int .i64 x5, .string x6, .string x7, .int .i64 x8] 47 (0, 0) := by simpa [Array.getElem?_eq_getElem hlt] using h
  show (w.heap.modify r _)[r]? = _
  rw [Array.getElem?_eq_getElem (by simpa using hlt), Array.getElem_modify_self, h']
  rfl
theorem size60 : (Tryz.prog.info? 47).map (·.size) = some 9 := by kernel_rfl
theorem CB.all {w : World} {r : Nat} {x0 x1 x2 x3 x4 x5 : Int} {x6 x7 : ByteArray} {x8 : Int} (h : CB w r x0 x1 x2 x3 x4 x5 x6 x7 x8) (y0 y1 y2 y3 y4 y5 : Int) (y6 y7 : ByteArray) (y8 : Int) : CB (((((((((w.setCell ⟨r, 0, none⟩ (.int .i64 y0)).setCell ⟨r, 1, none⟩ (.int .i64 y1)).setCell ⟨r, 2, none⟩ (.int .i64 y2)).setCell ⟨r, 3, none⟩ (.int .i64 y3)).setCell ⟨r, 4, none⟩ (.int .i64 y4)).setCell ⟨r, 5, none⟩ (.int .i64 y5)).setCell ⟨r, 6, none⟩ (.string y6)).setCell ⟨r, 7, none⟩ (.string y7)).setCell ⟨r, 8, none⟩ (.int .i64 y8)) r y0 y1 y2 y3 y4 y5 y6 y7 y8 := ((((((((h.s0 y0).s1 y1).s2 y2).s3 y3).s4 y4).s5 y5).s6 y6).s7 y7).s8 y8
theorem CB.sky {w : World} {r : Nat} {x0 x1 x2 x3 x4 x5 : Int} {x6 x7 : ByteArray} {x8 : Int} (h : CB w r x0 x1 x2 x3 x4 x5 x6 x7 x8) (y3 y4 y5 : Int) (y6 y7 : ByteArray) (y8 : Int) : CB ((((((w.setCell ⟨r, 3, none⟩ (.int .i64 y3)).setCell ⟨r, 4, none⟩ (.int .i64 y4)).setCell ⟨r, 5, none⟩ (.int .i64 y5)).setCell ⟨r, 6, none⟩ (.string y6)).setCell ⟨r, 7, none⟩ (.string y7)).setCell ⟨r, 8, none⟩ (.int .i64 y8)) r x0 x1 x2 y3 y4 y5 y6 y7 y8 := (((((h.s3 y3).s4 y4).s5 y5).s6 y6).s7 y7).s8 y8
theorem below_cells {w wx : World} {B r : Nat} (hr : B ≤ r) : ∀ (l : List (Nat × Value)), Below B w wx → Below B w (l.foldl (fun u x => u.setCell ⟨r, x.1, none⟩ x.2) wx) := by
  intro l
  induction l generalizing wx with
  | nil => exact fun h => h
  | cons x l ih => exact fun h => ih (h.setCell (p := ⟨r, x.1, none⟩) hr x.2)
set_option maxRecDepth 20000 in
set_option maxHeartbeats 2000000 in
theorem to1_any (x0 x1 x2 x3 x4 x5 : Int) (x6 x7 : ByteArray) (x8 : Int) (w : World) : Calls Tryz.prog 39 #[.agg #[.int .i64 x0, .int .i64 x1, .int .i64 x2, .int .i64 x3, .int .i64 x4, .int .i64 x5, .string x6, .string x7, .int .i64 x8]] w fun e w' => e = .returned (.agg #[.int .i64 x0, .int .i64 x1, .int .i64 x2, .int .i64 x3, .int .i64 x4, .int .i64 x5, .string x6, .string x7, .int .i64 x8]) ∧ Below w.heap.size w w' := by
  have C : Hid (∀ w, Calls Tryz.prog 17 #[Sk.sk x3 x4 x5 x6 x7 x8] w fun e w' => e = .returned (Sk.sk x3 x4 x5 x6 x7 x8) ∧ Below w.heap.size w w') := fun w => Sk.to_any _ _ _ _ _ _ w
  obtain ⟨W, hW⟩ : ∃ W, W = ((w.alloc (Obj.cells #[.int .i64 x0, .int .i64 x1, .int .i64 x2, .int .i64 x3, .int .i64 x4, .int .i64 x5, .string x6, .string x7, .int .i64 x8] 61)).alloc (Obj.cells #[.int .i64 0, .int .i64 0, .int .i64 0, .int .i64 0, .int .i64 0, .int .i64 0, .string ⟨#[]⟩, .string ⟨#[]⟩, .int .i64 0] 47)).alloc (Obj.cells #[.int .i64 x0, .int .i64 x1, .int .i64 x2, .int .i64 0, .int .i64 0, .int .i64 0, .string ⟨#[]⟩, .string ⟨#[]⟩, .int .i64 0] 47) := ⟨_, rfl⟩
  have HW : Hid (W = ((w.alloc (Obj.cells #[.int .i64 x0, .int .i64 x1, .int .i64 x2, .int .i64 x3, .int .i64 x4, .int .i64 x5, .string x6, .string x7, .int .i64 x8] 61)).alloc (Obj.cells #[.int .i64 0, .int .i64 0, .int .i64 0, .int .i64 0, .int .i64 0, .int .i64 0, .string ⟨#[]⟩, .string ⟨#[]⟩, .int .i64 0] 47)).alloc (Obj.cells #[.int .i64 x0, .int .i64 x1, .int .i64 x2, .int .i64 0, .int .i64 0, .int .i64 0, .string ⟨#[]⟩, .string ⟨#[]⟩, .int .i64 0] 47)) := hW
  have BW : Hid (Below w.heap.size w W) := (by show Below _ _ _; rw [hW]; exact (((Below.refl _ _).alloc (Nat.le_refl _) _).alloc (by simp) _).alloc (by simp; omega) _)
  have ZW : Hid (W.heap.size = w.heap.size + 3) := (by show _ = _; rw [hW]; simp)
  have K1 : Hid (CB W (w.heap.size + 1) 0 0 0 0 0 0 ⟨#[]⟩ ⟨#[]⟩ 0) := (by
    show CB _ _ _ _ _ _ _ _ _ _ _
    rw [hW]
    have := (CB.new (w.alloc (Obj.cells #[.int .i64 x0, .int .i64 x1, .int .i64 x2, .int .i64 x3, .int .i64 x4, .int .i64 x5, .string x6, .string x7, .int .i64 x8] 61)) 0 0 0 0 0 0 ⟨#[]⟩ ⟨#[]⟩ 0).on ((Below.refl _ _).alloc (Nat.le_refl _) (Obj.cells #[.int .i64 x0, .int .i64 x1, .int .i64 x2, .int .i64 0, .int .i64 0, .int .i64 0, .string ⟨#[]⟩, .string ⟨#[]⟩, .int .i64 0] 47)) (by simp)
    simpa using this)
  have K2 : Hid (CB W (w.heap.size + 2) x0 x1 x2 0 0 0 ⟨#[]⟩ ⟨#[]⟩ 0) := (by
    show CB _ _ _ _ _ _ _ _ _ _ _
    rw [hW]
    have := CB.new ((w.alloc (Obj.cells #[.int .i64 x0, .int .i64 x1, .int .i64 x2, .int .i64 x3, .int .i64 x4, .int .i64 x5, .string x6, .string x7, .int .i64 x8] 61)).alloc (Obj.cells #[.int .i64 0, .int .i64 0, .int .i64 0, .int .i64 0, .int .i64 0, .int .i64 0, .string ⟨#[]⟩, .string ⟨#[]⟩, .int .i64 0] 47)) x0 x1 x2 0 0 0 ⟨#[]⟩ ⟨#[]⟩ 0
    simpa using this)
  clear hW
  go_enter Tryz.func39, Tryz.ntmps39
  go_wp2_with fail
  rw [← HW.out]
  refine (C.out _).mono ?_
  rintro e w1 ⟨rfl, hb⟩
  have z := ZW.out
  have B1 : Hid (Below w.heap.size w w1) := BW.out.trans (hb.mono BW.out.size)
  have R1 : Hid (CB w1 (w.heap.size + 1) 0 0 0 0 0 0 ⟨#[]⟩ ⟨#[]⟩ 0) := K1.out.on hb (by omega)
  have R2 : Hid (CB w1 (w.heap.size + 2) x0 x1 x2 0 0 0 ⟨#[]⟩ ⟨#[]⟩ 0) := K2.out.on hb (by omega)
  have R3 : Hid (CB ((((((w1.setCell ⟨w.heap.size + 2, 3, none⟩ (.int .i64 x3)).setCell ⟨w.heap.size + 2, 4, none⟩ (.int .i64 x4)).setCell ⟨w.heap.size + 2, 5, none⟩ (.int .i64 x5)).setCell ⟨w.heap.size + 2, 6, none⟩ (.string x6)).setCell ⟨w.heap.size + 2, 7, none⟩ (.string x7)).setCell ⟨w.heap.size + 2, 8, none⟩ (.int .i64 x8)) (w.heap.size + 2) x0 x1 x2 x3 x4 x5 x6 x7 x8) := R2.out.sky _ _ _ _ _ _
  have R4 : Hid (CB ((((((w1.setCell ⟨w.heap.size + 2, 3, none⟩ (.int .i64 x3)).setCell ⟨w.heap.size + 2, 4, none⟩ (.int .i64 x4)).setCell ⟨w.heap.size + 2, 5, none⟩ (.int .i64 x5)).setCell ⟨w.heap.size + 2, 6, none⟩ (.string x6)).setCell ⟨w.heap.size + 2, 7, none⟩ (.string x7)).setCell ⟨w.heap.size + 2, 8, none⟩ (.int .i64 x8)) (w.heap.size + 1) 0 0 0 0 0 0 ⟨#[]⟩ ⟨#[]⟩ 0) := (((((R1.out.keep (by omega) _ _).keep (by omega) _ _).keep (by omega) _ _).keep (by omega) _ _).keep (by omega) _ _).keep (by omega) _ _
  have B3 : Hid (Below w.heap.size w ((((((w1.setCell ⟨w.heap.size + 2, 3, none⟩ (.int .i64 x3)).setCell ⟨w.heap.size + 2, 4, none⟩ (.int .i64 x4)).setCell ⟨w.heap.size + 2, 5, none⟩ (.int .i64 x5)).setCell ⟨w.heap.size + 2, 6, none⟩ (.string x6)).setCell ⟨w.heap.size + 2, 7, none⟩ (.string x7)).setCell ⟨w.heap.size + 2, 8, none⟩ (.int .i64 x8))) := below_cells (Nat.le_add_right _ 2) [(3, .int .i64 x3), (4, .int .i64 x4), (5, .int .i64 x5), (6, .string x6), (7, .string x7), (8, .int .i64 x8)] B1.out
  obtain ⟨a0, a1, a2, a3, a4, a5, a6, a7, a8, a9⟩ := R2.out.cells
  have f3 := a9 3
  have f4 := a9 4
  have f5 := a9 5
  have f6 := a9 6
  have f7 := a9 7
  have f8 := a9 8
  obtain ⟨W1, hW1⟩ : ∃ W1, W1 = ((((((w1.setCell ⟨w.heap.size + 2, 3, none⟩ (.int .i64 x3)).setCell ⟨w.heap.size + 2, 4, none⟩ (.int .i64 x4)).setCell ⟨w.heap.size + 2, 5, none⟩ (.int .i64 x5)).setCell ⟨w.heap.size + 2, 6, none⟩ (.string x6)).setCell ⟨w.heap.size + 2, 7, none⟩ (.string x7)).setCell ⟨w.heap.size + 2, 8, none⟩ (.int .i64 x8)) := ⟨_, rfl⟩
  have HW1 : Hid (W1 = ((((((w1.setCell ⟨w.heap.size + 2, 3, none⟩ (.int .i64 x3)).setCell ⟨w.heap.size + 2, 4, none⟩ (.int .i64 x4)).setCell ⟨w.heap.size + 2, 5, none⟩ (.int .i64 x5)).setCell ⟨w.heap.size + 2, 6, none⟩ (.string x6)).setCell ⟨w.heap.size + 2, 7, none⟩ (.string x7)).setCell ⟨w.heap.size + 2, 8, none⟩ (.int .i64 x8))) := hW1
  rw [← hW1] at R3 R4 B3
  clear z hb hW1 a9 HW K1 K2 R1 R2 BW
  go_upto_region 6 with fail
  rw [← HW1.out]
  clear a0 a1 a2 a3 a4 a5 a6 a7 a8 f3 f4 f5 f6 f7 f8
  obtain ⟨a0, a1, a2, a3, a4, a5, a6, a7, a8, _⟩ := R3.out.cells
  obtain ⟨b0, b1, b2, b3, b4, b5, b6, b7, b8, b9⟩ := R4.out.cells
  have f0 := b9 0
  have f1 := b9 1
  have f2 := b9 2
  have f3 := b9 3
  have f4 := b9 4
  have f5 := b9 5
  have f6 := b9 6
  have f7 := b9 7
  have f8 := b9 8
  clear b9
  go_wp2_with fail
  exact bodyPost_ret (v := .agg #[.int .i64 x0, .int .i64 x1, .int .i64 x2, .int .i64 x3, .int .i64 x4, .int .i64 x5, .string x6, .string x7, .int .i64 x8]) (results_cell_row Tryz.results39 _ _ (w.heap.size + 1) 47 _ (0, 0) _ rfl (R4.out.all x0 x1 x2 x3 x4 x5 x6 x7 x8) Tryz.underlying47 rfl size60) rfl ⟨rfl, below_cells (Nat.le_add_right _ 1) [(0, .int .i64 x0), (1, .int .i64 x1), (2, .int .i64 x2), (3, .int .i64 x3), (4, .int .i64 x4), (5, .int .i64 x5), (6, .string x6), (7, .string x7), (8, .int .i64 x8)] B3.out⟩
theorem Tryz.infoE : (Tryz.prog.info? 47).map (fun i => (i.zero, i.size, i.bytes)) = some (some (.agg #[.int .i64 0, .int .i64 0, .int .i64 0, .int .i64 0, .int .i64 0, .int .i64 0, .string ⟨#[]⟩, .string ⟨#[]⟩, .int .i64 0]), 9, 88) := by kernel_rfl
set_option maxHeartbeats 1000000 in
theorem to_own (w : World) (v : Value) (L : Ls) (h : Reads w v L) (hl : L.length ≤ 1048576) :
    Calls Tryz.prog 18 #[v] w fun e w' => ∃ v', e = .returned v' ∧ Row w' w.heap.size v' L ∧ Below w.heap.size w w' := by
  obtain ⟨i0, hi, hz0, hz1, hz2⟩ := info_parts Tryz.infoE
  have hcell : ∃ f : Nat → Nat × Nat, (∀ i, i < L.length → Cs w (f 0).1 (f 0).2 L i) ∧ (0 < L.length → (f 0).1 < w.heap.size ∧ ∃ cap, v = .slice (some ⟨(f 0).1, (f 0).2, none⟩) L.length cap) := by
    rcases h with ⟨rfl, _⟩ | ⟨b, o, cap, h1, h2, h3, h4, h5⟩
    · exact ⟨fun _ => (0, 0), fun i hi => by simp at hi, fun hi => by simp at hi⟩
    · exact ⟨fun _ => (b, o), h5, fun _ => ⟨h4, cap, h1⟩⟩
  obtain ⟨f, hc, hv⟩ := hcell
  obtain ⟨a, cap, rfl⟩ := h.form
  have HC : Hid (∀ i, i < L.length → Cs w (f 0).1 (f 0).2 L i) := hc
  have HV : Hid (0 < L.length → (f 0).1 < w.heap.size ∧ a = some ⟨(f 0).1, (f 0).2, none⟩) := fun hi => by
    obtain ⟨h1, c, h2⟩ := hv hi
    simp at h2
    exact ⟨h1, h2.1⟩
  obtain ⟨n, hn⟩ : ∃ n, n = L.length := ⟨_, rfl⟩
  unfold Row
  rw [← hn] at hl ⊢
  have HN : Hid (n = L.length) := hn
  clear h hc hv hn
  go_enter Tryz.func18, Tryz.ntmps18
  go_wp2_with (at_make; refine wpList_make_full _ rfl _ _ 33 rfl w.heap.size 47 i0 (.agg #[.int .i64 0, .int .i64 0, .int .i64 0, .int .i64 0, .int .i64 0, .int .i64 0, .string ⟨#[]⟩, .string ⟨#[]⟩, .int .i64 0]) 9 Tryz.underlying33 hi hz0 hz1 .i64 .i64 (n : Int) (n : Int) n rfl rfl rfl rfl (by rw [hz2]; omega) (by unfold maxLen; omega) (Nat.le_refl _) ?_; intro w4 hown hgrow)
  have R0 : Hid (∃ xs, w4.ownsRow w.heap.size 47 9 (.slice (some ⟨w.heap.size, 0, none⟩) n n) n xs ∧ Good xs L 0) := ⟨_, hown, fun i hi => absurd hi (by omega)⟩
  have B0 : Hid (Below w.heap.size w w4) := (Below.refl _ _).grown hgrow (Nat.le_refl _) (fun k hk => by cases hk)
  clear hown hgrow
  go_loopw [4] (fun c wr => ∃ j : Nat, j ≤ n ∧ c = .int .i64 j ∧ Hid (∃ xs, wr.ownsRow w.heap.size 47 9 (.slice (some ⟨w.heap.size, 0, none⟩) n n) n xs ∧ Good xs L j) ∧ Hid (Below w.heap.size w wr)) (fun c _ => n - (intOf c).toNat)
  case atStart => exact ⟨0, Nat.zero_le _, rfl, R0, B0⟩
  case round =>
    obtain ⟨j, hj, rfl, R, BB⟩ := hrel
    by_cases hlt : j < n
    · have hlt' : j < L.length := by rw [← HN.out]; exact hlt
      obtain ⟨v1, v2⟩ := HV.out (by omega)
      subst v2
      have i0 : (0 : Int) ≤ (j : Int) := by omega
      have i1 : (j : Int) < (n : Int) := by omega
      obtain ⟨q0, q1, q2, q3, q4, q5, q6, q7, q8⟩ : Cs wr (f 0).1 (f 0).2 L j := (HC.out j hlt').below BB.out v1
      obtain ⟨xs, RX, GX⟩ := R.out
      have RX' : Hid (wr.ownsRow w.heap.size 47 9 (.slice (some ⟨w.heap.size, 0, none⟩) n n) n xs) := RX
      have GX' : Hid (Good xs L j) := GX
      clear RX GX R
      generalize hx0 : c0 L j = x0 at *
      generalize hx1 : c1 L j = x1 at *
      generalize hx2 : c2 L j = x2 at *
      generalize hx3 : c3 L j = x3 at *
      generalize hx4 : c4 L j = x4 at *
      generalize hx5 : c5 L j = x5 at *
      generalize hx6 : c6 L j = x6 at *
      generalize hx7 : c7 L j = x7 at *
      generalize hx8 : c8 L j = x8 at *
      have HX : Hid (c0 L j = x0 ∧ c1 L j = x1 ∧ c2 L j = x2 ∧ c3 L j = x3 ∧ c4 L j = x4 ∧ c5 L j = x5 ∧ c6 L j = x6 ∧ c7 L j = x7 ∧ c8 L j = x8) := ⟨hx0, hx1, hx2, hx3, hx4, hx5, hx6, hx7, hx8⟩
      clear hx0 hx1 hx2 hx3 hx4 hx5 hx6 hx7 hx8
      go_wp2_with fail
      refine (to1_any _ _ _ _ _ _ _ _ _ _).mono ?_
      rintro e w5 ⟨rfl, hb5⟩
      have R5 : Hid (w5.ownsRow w.heap.size 47 9 (.slice (some ⟨w.heap.size, 0, none⟩) n n) n xs) := row_below RX'.out hb5
      have B5 : Hid (Below w.heap.size w w5) := BB.out.trans (hb5.mono BB.out.size)
      have lx : xs.length = n * 9 := R5.out.1
      obtain ⟨z0, p0⟩ : ∃ z, w5.cell? ⟨w.heap.size, j * 9, none⟩ = some z := ⟨xs[j * 9]'(by omega), by rw [R5.out.cellAt (j * 9) (by omega)]; exact List.getElem?_eq_getElem _⟩
      obtain ⟨z1, p1⟩ : ∃ z, w5.cell? ⟨w.heap.size, j * 9 + 1, none⟩ = some z := ⟨xs[j * 9 + 1]'(by omega), by rw [R5.out.cellAt (j * 9 + 1) (by omega)]; exact List.getElem?_eq_getElem _⟩
      obtain ⟨z2, p2⟩ : ∃ z, w5.cell? ⟨w.heap.size, j * 9 + 2, none⟩ = some z := ⟨xs[j * 9 + 2]'(by omega), by rw [R5.out.cellAt (j * 9 + 2) (by omega)]; exact List.getElem?_eq_getElem _⟩
      obtain ⟨z3, p3⟩ : ∃ z, w5.cell? ⟨w.heap.size, j * 9 + 3, none⟩ = some z := ⟨xs[j * 9 + 3]'(by omega), by rw [R5.out.cellAt (j * 9 + 3) (by omega)]; exact List.getElem?_eq_getElem _⟩
      obtain ⟨z4, p4⟩ : ∃ z, w5.cell? ⟨w.heap.size, j * 9 + 4, none⟩ = some z := ⟨xs[j * 9 + 4]'(by omega), by rw [R5.out.cellAt (j * 9 + 4) (by omega)]; exact List.getElem?_eq_getElem _⟩
      obtain ⟨z5, p5⟩ : ∃ z, w5.cell? ⟨w.heap.size, j * 9 + 5, none⟩ = some z := ⟨xs[j * 9 + 5]'(by omega), by rw [R5.out.cellAt (j * 9 + 5) (by omega)]; exact List.getElem?_eq_getElem _⟩
      obtain ⟨z6, p6⟩ : ∃ z, w5.cell? ⟨w.heap.size, j * 9 + 6, none⟩ = some z := ⟨xs[j * 9 + 6]'(by omega), by rw [R5.out.cellAt (j * 9 + 6) (by omega)]; exact List.getElem?_eq_getElem _⟩
      obtain ⟨z7, p7⟩ : ∃ z, w5.cell? ⟨w.heap.size, j * 9 + 7, none⟩ = some z := ⟨xs[j * 9 + 7]'(by omega), by rw [R5.out.cellAt (j * 9 + 7) (by omega)]; exact List.getElem?_eq_getElem _⟩
      obtain ⟨z8, p8⟩ : ∃ z, w5.cell? ⟨w.heap.size, j * 9 + 8, none⟩ = some z := ⟨xs[j * 9 + 8]'(by omega), by rw [R5.out.cellAt (j * 9 + 8) (by omega)]; exact List.getElem?_eq_getElem _⟩
      have f0 : w5.frozen? ⟨w.heap.size, j * 9, none⟩ = false := R5.out.frozenAt _
      have f1 : w5.frozen? ⟨w.heap.size, j * 9 + 1, none⟩ = false := R5.out.frozenAt _
      have f2 : w5.frozen? ⟨w.heap.size, j * 9 + 2, none⟩ = false := R5.out.frozenAt _
      have f3 : w5.frozen? ⟨w.heap.size, j * 9 + 3, none⟩ = false := R5.out.frozenAt _
      have f4 : w5.frozen? ⟨w.heap.size, j * 9 + 4, none⟩ = false := R5.out.frozenAt _
      have f5 : w5.frozen? ⟨w.heap.size, j * 9 + 5, none⟩ = false := R5.out.frozenAt _
      have f6 : w5.frozen? ⟨w.heap.size, j * 9 + 6, none⟩ = false := R5.out.frozenAt _
      have f7 : w5.frozen? ⟨w.heap.size, j * 9 + 7, none⟩ = false := R5.out.frozenAt _
      have f8 : w5.frozen? ⟨w.heap.size, j * 9 + 8, none⟩ = false := R5.out.frozenAt _
      have R6 : Hid ((((((((((w5.setCell ⟨w.heap.size, j * 9, none⟩ (.int .i64 x0)).setCell ⟨w.heap.size, j * 9 + 1, none⟩ (.int .i64 x1)).setCell ⟨w.heap.size, j * 9 + 2, none⟩ (.int .i64 x2)).setCell ⟨w.heap.size, j * 9 + 3, none⟩ (.int .i64 x3)).setCell ⟨w.heap.size, j * 9 + 4, none⟩ (.int .i64 x4)).setCell ⟨w.heap.size, j * 9 + 5, none⟩ (.int .i64 x5)).setCell ⟨w.heap.size, j * 9 + 6, none⟩ (.string x6)).setCell ⟨w.heap.size, j * 9 + 7, none⟩ (.string x7)).setCell ⟨w.heap.size, j * 9 + 8, none⟩ (.int .i64 x8)).ownsRow w.heap.size 47 9 (.slice (some ⟨w.heap.size, 0, none⟩) n n) n (((((((((xs.set (j * 9) (.int .i64 x0)).set (j * 9 + 1) (.int .i64 x1)).set (j * 9 + 2) (.int .i64 x2)).set (j * 9 + 3) (.int .i64 x3)).set (j * 9 + 4) (.int .i64 x4)).set (j * 9 + 5) (.int .i64 x5)).set (j * 9 + 6) (.string x6)).set (j * 9 + 7) (.string x7)).set (j * 9 + 8) (.int .i64 x8))) := (((((((((R5.out.stored (j * 9) _).1.stored (j * 9 + 1) _).1.stored (j * 9 + 2) _).1.stored (j * 9 + 3) _).1.stored (j * 9 + 4) _).1.stored (j * 9 + 5) _).1.stored (j * 9 + 6) _).1.stored (j * 9 + 7) _).1.stored (j * 9 + 8) _).1
      have G6 : Hid (Good (((((((((xs.set (j * 9) (.int .i64 x0)).set (j * 9 + 1) (.int .i64 x1)).set (j * 9 + 2) (.int .i64 x2)).set (j * 9 + 3) (.int .i64 x3)).set (j * 9 + 4) (.int .i64 x4)).set (j * 9 + 5) (.int .i64 x5)).set (j * 9 + 6) (.string x6)).set (j * 9 + 7) (.string x7)).set (j * 9 + 8) (.int .i64 x8)) L (j + 1)) := (by show Good _ _ _; rw [← HX.out.1, ← HX.out.2.1, ← HX.out.2.2.1, ← HX.out.2.2.2.1, ← HX.out.2.2.2.2.1, ← HX.out.2.2.2.2.2.1, ← HX.out.2.2.2.2.2.2.1, ← HX.out.2.2.2.2.2.2.2.1, ← HX.out.2.2.2.2.2.2.2.2]; exact GX'.out.next (by omega))
      have B6 : Hid (Below w.heap.size w (((((((((w5.setCell ⟨w.heap.size, j * 9, none⟩ (.int .i64 x0)).setCell ⟨w.heap.size, j * 9 + 1, none⟩ (.int .i64 x1)).setCell ⟨w.heap.size, j * 9 + 2, none⟩ (.int .i64 x2)).setCell ⟨w.heap.size, j * 9 + 3, none⟩ (.int .i64 x3)).setCell ⟨w.heap.size, j * 9 + 4, none⟩ (.int .i64 x4)).setCell ⟨w.heap.size, j * 9 + 5, none⟩ (.int .i64 x5)).setCell ⟨w.heap.size, j * 9 + 6, none⟩ (.string x6)).setCell ⟨w.heap.size, j * 9 + 7, none⟩ (.string x7)).setCell ⟨w.heap.size, j * 9 + 8, none⟩ (.int .i64 x8))) := (((((((((B5.out.setCell (Nat.le_refl _) _).setCell (Nat.le_refl _) _).setCell (Nat.le_refl _) _).setCell (Nat.le_refl _) _).setCell (Nat.le_refl _) _).setCell (Nat.le_refl _) _).setCell (Nat.le_refl _) _).setCell (Nat.le_refl _) _).setCell (Nat.le_refl _) _)
      clear hb5 lx
      go_wp2_with fail
      go_roundw
      case rel => exact ⟨j + 1, by omega, by go_num, ⟨_, R6.out, G6.out⟩, B6⟩
      case measure => simp [intOf]; omega
    · have hjn : j = n := by omega
      subst hjn
      have RE : Hid (∃ xs, wr.ownsRow w.heap.size 47 9 (.slice (some ⟨w.heap.size, 0, none⟩) j j) j xs ∧ Good xs L j) := R
      clear R
      go_wp2_with fail
      go_ret
      exact ⟨_, rfl, RE.out, BB.out⟩

end Go.Proofs.YtoaabdmbgemkjaaGreatDoor.Ch
