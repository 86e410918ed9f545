/- Lists of structs of 2 numbers (ff): read, compared, copied, marked, held. -/
import Derived.Test.YtgnnmepjdmcecaaCn
import Derived.Test.YtgnnmepjdmcecaaFltX
import Derived.OwnWalk
import Derived.WalkSmall
import Derived.Laws.OwnMore
import Derived.Deep.QuietTactic
import Derived.BigQuiet
import Derived.Deep.RegionHeld3
namespace Go.Proofs.Ytgnnmepjdmcecaa.Pr
open Go.ChangeShapes Go.WideShapes Go.ChangeAt Go.RowKit
open Go.Proofs.Ytgnnmepjdmcecaa.Flt
theorem run_store_float {P : Program} (w : World) (a : Addr) (m : Mode) (k : FloatKind) (b : Nat) : (store a (.float k b) m).run P w = stored P w a (.float k b) m := run_store P w a _ m rfl
attribute [local go_sem] run_store_float

abbrev Ls := List (Nat × Nat)
def c0 (L : Ls) (i : Nat) : Nat := (L.getD i (0, 0)).1
def c1 (L : Ls) (i : Nat) : Nat := (L.getD i (0, 0)).2
def Cs (w : World) (b o : Nat) (L : Ls) (i : Nat) : Prop := w.cell? ⟨b, o + i * 2, none⟩ = some (.float .f64 (c0 L i)) ∧ w.cell? ⟨b, o + i * 2 + 1, none⟩ = some (.float .f64 (c1 L i))
def Reads (w : World) (v : Value) (L : Ls) : Prop :=
  (L = [] ∧ ∃ a cap, v = .slice a 0 cap) ∨ ∃ b o cap, v = .slice (some ⟨b, o, none⟩) L.length cap ∧ L.length ≤ cap ∧ cap ≤ maxLen ∧ b < w.heap.size ∧ ∀ i, i < L.length → Cs w b o L i
theorem Cs.below {w w' : World} {b o B : Nat} {L : Ls} {i : Nat} (h : Cs w b o L i) (hb : Below B w w') (hB : b < B) : Cs w' b o L i := by
  obtain ⟨h0, h1⟩ := h
  exact ⟨(hb.cell (p := ⟨b, o + i * 2, none⟩) hB).trans h0, (hb.cell (p := ⟨b, o + i * 2 + 1, none⟩) hB).trans h1⟩
theorem Reads.below {w w' : World} {v : Value} {L : Ls} {B : Nat} (h : Reads w v L) (hb : Below B w w') (hB : w.heap.size ≤ B) : Reads w' v L := by
  rcases h with h | ⟨b, o, cap, h1, h2, h3, h4, h5⟩
  · exact Or.inl h
  · exact Or.inr ⟨b, o, cap, h1, h2, h3, Nat.lt_of_lt_of_le h4 hb.size, fun i hi => (h5 i hi).below hb (by omega)⟩
theorem Reads.on {w w' : World} {v : Value} {L : Ls} (h : Reads w v L) (hb : Below w.heap.size w w') : Reads w' v L := h.below hb (Nat.le_refl _)
theorem Reads.form {w : World} {v : Value} {L : Ls} (h : Reads w v L) : ∃ a cap, v = .slice a L.length cap := by
  rcases h with ⟨rfl, a, cap, rfl⟩ | ⟨b, o, cap, rfl, _⟩
  · exact ⟨_, _, rfl⟩
  · exact ⟨_, _, rfl⟩
theorem Reads.fits {w : World} {v : Value} {L : Ls} (h : Reads w v L) : L.length < 9223372036854775808 := by
  rcases h with ⟨rfl, _⟩ | ⟨b, o, c, _, h1, h2, _⟩
  · decide
  · unfold maxLen at h2; omega

def Good (xs : List Value) (L : Ls) (j : Nat) : Prop := ∀ i, i < j → xs[i * 2]? = some (.float .f64 (c0 L i)) ∧ xs[i * 2 + 1]? = some (.float .f64 (c1 L i))
theorem Good.next {xs : List Value} {L : Ls} {j : Nat} (h : Good xs L j) (hl : j * 2 + 1 < xs.length) : Good ((xs.set (j * 2) (.float .f64 (c0 L j))).set (j * 2 + 1) (.float .f64 (c1 L j))) L (j + 1) := by
  intro i hi
  by_cases e : i = j
  · subst e
    refine ⟨?_, ?_⟩
    · rw [List.getElem?_set_ne (by omega), List.getElem?_set_self (by first | omega | (simp; omega))]
    · rw [List.getElem?_set_self (by first | omega | (simp; omega))]
  · obtain ⟨h0, h1⟩ := h i (by omega)
    refine ⟨?_, ?_⟩
    · rw [List.getElem?_set_ne (by omega), List.getElem?_set_ne (by omega)]; exact h0
    · rw [List.getElem?_set_ne (by omega), List.getElem?_set_ne (by omega)]; exact h1

def Row (w : World) (base : Nat) (v : Value) (L : Ls) : Prop := ∃ xs, w.ownsRow base 29 2 v L.length xs ∧ Good xs L L.length
theorem row_cases {w : World} {base n : Nat} {e : TypeId} {k : Nat} {v : Value} {xs : List Value} (h : w.ownsRow base e k v n xs) :
    (n = 0 ∧ v = .slice none 0 0) ∨ ∃ g cap, v = .slice (some ⟨g, 0, none⟩) n cap ∧ base ≤ g ∧ g < w.heap.size ∧ n ≤ cap ∧ cap ≤ maxLen := by
  obtain ⟨h0, h⟩ := h
  rcases h with ⟨rfl, hn⟩ | ⟨g, cap, cur, rfl, hb, hh, hc, hm, _⟩
  · exact Or.inl ⟨hn, rfl⟩
  · refine Or.inr ⟨g, cap, rfl, hb, ?_, hc, hm⟩
    by_cases x : g < w.heap.size
    · exact x
    · rw [Array.getElem?_eq_none (by omega)] at hh; cases hh
theorem Row.reads {w : World} {base : Nat} {v : Value} {L : Ls} (h : Row w base v L) : Reads w v L := by
  obtain ⟨xs, h, hg⟩ := h
  rcases row_cases h with ⟨hn, rfl⟩ | ⟨g, cap, rfl, _, h2, h3, h4⟩
  · exact Or.inl ⟨List.eq_nil_of_length_eq_zero hn, _, _, rfl⟩
  · refine Or.inr ⟨g, 0, cap, rfl, h3, h4, h2, fun i hi => ?_⟩
    obtain ⟨h10, h11⟩ := hg i hi
    refine ⟨?_, ?_⟩
    · rw [Nat.zero_add, h.cellAt (i * 2) (by omega)]; exact h10
    · rw [Nat.zero_add, h.cellAt (i * 2 + 1) (by omega)]; exact h11
theorem row_below {B : Nat} {e : TypeId} {k : Nat} {v : Value} {n : Nat} {xs : List Value} {w w' : World} (h : w.ownsRow B e k v n xs) (hb : Below w.heap.size w w') : w'.ownsRow B e k v n xs := by
  refine ⟨h.1, ?_⟩
  rcases h.2 with h2 | ⟨g, cap, cur, h1, h2, h3, h4⟩
  · exact .inl h2
  · have hg : g < w.heap.size := by
      rcases Nat.lt_or_ge g w.heap.size with x | x
      · exact x
      · rw [Array.getElem?_eq_none x] at h3; cases h3
    exact .inr ⟨g, cap, cur, h1, h2, (hb.block g hg).trans h3, h4⟩
theorem row_grown {w w' : World} {base n k : Nat} {e : TypeId} {v : Value} {xs : List Value} {row : Option Nat} (h : w.ownsRow base e k v n xs) (hg : w.grownBy w' row) (hne : ∀ g, v.ownBlock = some g → row ≠ some g) : w'.ownsRow base e k v n xs := by
  refine ⟨h.1, ?_⟩
  rcases h.2 with h2 | ⟨g, cap, cur, h1, h2, h3, h4⟩
  · exact .inl h2
  · have hlt : g < w.heap.size := by
      rcases Nat.lt_or_ge g w.heap.size with x | x
      · exact x
      · rw [Array.getElem?_eq_none x] at h3; cases h3
    exact .inr ⟨g, cap, cur, h1, h2, (hg.block g hlt (fun e => hne g (by rw [h1]; rfl) e.symm)).trans h3, h4⟩
theorem Row.on {w w' : World} {base : Nat} {v : Value} {L : Ls} (h : Row w base v L) (hb : Below w.heap.size w w') : Row w' base v L := by
  obtain ⟨xs, h, hg⟩ := h
  exact ⟨xs, row_below h hb, hg⟩
theorem Row.grown {w w' : World} {base : Nat} {v : Value} {L : Ls} {row : Option Nat} (h : Row w base v L) (hb : w.grownBy w' row) (hne : ∀ g, v.ownBlock = some g → row ≠ some g) : Row w' base v L := by
  obtain ⟨xs, h, hg⟩ := h
  exact ⟨xs, row_grown h hb hne, hg⟩
theorem Row.lt {w : World} {base : Nat} {v : Value} {L : Ls} (h : Row w base v L) (g : Nat) (hg : v.ownBlock = some g) : base ≤ g ∧ g < w.heap.size := by
  obtain ⟨xs, h, _⟩ := h
  exact h.lt g hg
theorem Row.form {w : World} {base : Nat} {v : Value} {L : Ls} (h : Row w base v L) : ∃ a c, v = .slice a L.length c := h.reads.form
theorem grown_setCell {w w1 : World} {g : Nat} (h : w.grownBy w1 (some g)) (o : Nat) (u : Value) : w.grownBy (w1.setCell ⟨g, o, none⟩ u) (some g) := by
  refine ⟨h.os, h.tape, h.output, ?_, ?_⟩
  · have := ((Below.refl 0 w1).setCell (p := ⟨g, o, none⟩) (Nat.zero_le _) u).size
    exact Nat.le_trans h.size this
  · intro k hk hne
    rw [Below.heap_setCell w1 ⟨g, o, none⟩ u k (fun e => hne (by rw [e]))]
    exact h.block k hk hne

theorem good_snoc {xs : List Value} {C : Ls} {z0 : Nat} {z1 : Nat} (h : Good xs C C.length) (hl : xs.length = C.length * 2) : Good (xs ++ [.float .f64 z0, .float .f64 z1]) (C ++ [(z0, z1)]) (C ++ [(z0, z1)]).length := by
  intro i hi
  simp at hi
  by_cases e : i = C.length
  · subst e
    have q0 : c0 (C ++ [(z0, z1)]) C.length = z0 := by simp [c0]
    have q1 : c1 (C ++ [(z0, z1)]) C.length = z1 := by simp [c1]
    rw [q0, q1]
    refine ⟨?_, ?_⟩
    · rw [List.getElem?_append_right (by omega)]; simp [hl]
    · rw [List.getElem?_append_right (by omega), show C.length * 2 + 1 - xs.length = 1 by omega]; rfl
  · have hi' : i < C.length := by omega
    have q : (C ++ [(z0, z1)]).getD i (0, 0) = C.getD i (0, 0) := by simp [List.getD_eq_getElem?_getD, List.getElem?_append_left hi']
    have q0 : c0 (C ++ [(z0, z1)]) i = c0 C i := by unfold c0; rw [q]
    have q1 : c1 (C ++ [(z0, z1)]) i = c1 C i := by unfold c1; rw [q]
    rw [q0, q1]
    obtain ⟨h0, h1⟩ := h i hi'
    refine ⟨?_, ?_⟩
    · rw [List.getElem?_append_left (by omega)]; exact h0
    · rw [List.getElem?_append_left (by omega)]; exact h1
theorem cell_news (w : World) (v0 : Value) (v1 : Value) (t : TypeId) : ∀ j u, [v0, v1][j]? = some u → (w.alloc (Obj.cells #[v0, v1] t)).cell? ((⟨w.heap.size, 0, none⟩ : Addr).add j) = some u := by
  intro j u hj
  match j, hj with
  | 0, hj => simp at hj; subst hj; simp [Addr.add]
  | 1, hj => simp at hj; subst hj; simp [Addr.add]
theorem Try.infoE : (Try.prog.info? 29).map (fun i => (i.zero, i.size, i.bytes)) = some (some (.agg #[.float .f64 0, .float .f64 0]), 2, 16) := by kernel_rfl
def mks (n : Nat) : Ls := (List.range n).map fun (i : Nat) => (floatOfInt .f64 (1 + (i : Int) * 2), floatOfInt .f64 (1 + (i : Int) * 2 + 1))
theorem mks_len (n : Nat) : (mks n).length = n := by simp [mks]
theorem mks_at (n i : Nat) (h : i < n) : c0 (mks n) i = floatOfInt .f64 (1 + (i : Int) * 2) ∧ c1 (mks n) i = floatOfInt .f64 (1 + (i : Int) * 2 + 1) := by
  simp [c0, c1, mks, List.getD_eq_getElem?_getD, h]
theorem fi_self (n : Int) (h : n.natAbs < 9007199254740992) : (ord (floatOfInt .f64 n) (floatOfInt .f64 n) != some .eq) = false := by
  rw [self_ne]
  have := (fl_num n h).1
  unfold nan
  exact decide_eq_false (by show ¬ _ < rng (floatOfInt .f64 n); omega)
end Go.Proofs.Ytgnnmepjdmcecaa.Pr
