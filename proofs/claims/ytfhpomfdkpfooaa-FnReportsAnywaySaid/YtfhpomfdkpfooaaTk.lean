/- Lists of structs of int64s and a list of int64: read, measured, copied, compared. -/
import Derived.Test.YtfhpomfdkpfooaaTk1
import Derived.OwnWalk
import Derived.WalkSmall
import Derived.Laws.OwnMore
import Derived.Deep.QuietTactic
import Derived.BigQuiet
import Derived.Deep.RegionHeld3
namespace Go.Proofs.Ytfhpomfdkpfooaa.Tk
open Go.ChangeShapes Go.WideShapes Go.ChangeAt Go.RowKit
open Go.Proofs.Ytfhpomfdkpfooaa.Lists

abbrev El := (Nat → Int) × List Int
abbrev Ls := List El
def cz (L : Ls) (i j : Nat) : Int := (L.getD i (fun _ => 0, [])).1 j
def cl (L : Ls) (i : Nat) : List Int := (L.getD i (fun _ => 0, [])).2
def Cs (w : World) (b o : Nat) (L : Ls) (i : Nat) : Prop := w.cell? ⟨b, o + i * 4 + 1, none⟩ = some (.int .i64 (cz L i 1)) ∧ w.cell? ⟨b, o + i * 4 + 2, none⟩ = some (.int .i64 (cz L i 2)) ∧ w.cell? ⟨b, o + i * 4 + 3, none⟩ = some (.int .i64 (cz L i 3)) ∧ ∃ u, w.cell? ⟨b, o + i * 4, none⟩ = some u ∧ Lists.Reads w u (cl L i)
theorem Cs.on {w w' : World} {b o : Nat} {L : Ls} {i : Nat} (h : Cs w b o L i) (hb : Below w.heap.size w w') (hB : b < w.heap.size) : Cs w' b o L i := by
  obtain ⟨h1, h2, h3, u, hu, hr⟩ := h
  exact ⟨(hb.cell (p := ⟨b, o + i * 4 + 1, none⟩) hB).trans h1, (hb.cell (p := ⟨b, o + i * 4 + 2, none⟩) hB).trans h2, (hb.cell (p := ⟨b, o + i * 4 + 3, none⟩) hB).trans h3, u, (hb.cell (p := ⟨b, o + i * 4, none⟩) hB).trans hu, hr.on hb⟩
def Reads (w : World) (v : Value) (L : Ls) : Prop :=
  (L = [] ∧ ∃ a cap, v = .slice a 0 cap) ∨ ∃ b o cap, v = .slice (some ⟨b, o, none⟩) L.length cap ∧ L.length ≤ cap ∧ cap ≤ maxLen ∧ b < w.heap.size ∧ ∀ i, i < L.length → Cs w b o L i
theorem Reads.on {w w' : World} {v : Value} {L : Ls} (h : Reads w v L) (hb : Below w.heap.size w w') : Reads w' v L := by
  rcases h with h | ⟨b, o, cap, h1, h2, h3, h4, h5⟩
  · exact Or.inl h
  · exact Or.inr ⟨b, o, cap, h1, h2, h3, Nat.lt_of_lt_of_le h4 hb.size, fun i hi => (h5 i hi).on hb h4⟩
theorem Reads.form {w : World} {v : Value} {L : Ls} (h : Reads w v L) : ∃ a cap, v = .slice a L.length cap := by
  rcases h with ⟨rfl, a, cap, rfl⟩ | ⟨b, o, cap, rfl, _⟩
  · exact ⟨_, _, rfl⟩
  · exact ⟨_, _, rfl⟩
theorem Reads.fits {w : World} {v : Value} {L : Ls} (h : Reads w v L) : L.length < 9223372036854775808 := by
  rcases h with ⟨rfl, _⟩ | ⟨b, o, c, _, h1, h2, _⟩
  · decide
  · unfold maxLen at h2; omega
theorem lfits {w : World} {v : Value} {L : List Int} (h : Lists.Reads w v L) : L.length < 9223372036854775808 := by
  rcases h with ⟨rfl, _⟩ | ⟨b, o, c, _, h1, h2, _⟩
  · decide
  · unfold maxLen at h2; omega

def Good (w : World) (B : Nat) (xs : List Value) (L : Ls) (j : Nat) : Prop := ∀ i, i < j → xs[i * 4 + 1]? = some (.int .i64 (cz L i 1)) ∧ xs[i * 4 + 2]? = some (.int .i64 (cz L i 2)) ∧ xs[i * 4 + 3]? = some (.int .i64 (cz L i 3)) ∧ ∃ u, xs[i * 4]? = some u ∧ w.ownsRow B 2 1 u (cl L i).length (ints (cl L i))
def Row (w : World) (base : Nat) (v : Value) (L : Ls) : Prop := ∃ xs, w.ownsRow base 50 4 v L.length xs ∧ Good w base xs L L.length
theorem Good.on {w w' : World} {B : Nat} {xs : List Value} {L : Ls} {j : Nat} (h : Good w B xs L j) (hb : Below w.heap.size w w') : Good w' B xs L j := fun i hi => by
  obtain ⟨h1, h2, h3, u, hu, hr⟩ := h i hi
  exact ⟨h1, h2, h3, u, hu, Tk1.row_on hr hb⟩
theorem row_cases {w : World} {base n : Nat} {e : TypeId} {k : Nat} {v : Value} {xs : List Value} (h : w.ownsRow base e k v n xs) :
    (n = 0 ∧ v = .slice none 0 0) ∨ ∃ g cap, v = .slice (some ⟨g, 0, none⟩) n cap ∧ base ≤ g ∧ g < w.heap.size ∧ n ≤ cap ∧ cap ≤ maxLen := by
  obtain ⟨h0, h⟩ := h
  rcases h with ⟨rfl, hn⟩ | ⟨g, cap, cur, rfl, hb, hh, hc, hm, _⟩
  · exact Or.inl ⟨hn, rfl⟩
  · refine Or.inr ⟨g, cap, rfl, hb, ?_, hc, hm⟩
    by_cases x : g < w.heap.size
    · exact x
    · rw [Array.getElem?_eq_none (by omega)] at hh; cases hh
theorem row_below {B : Nat} {e : TypeId} {k : Nat} {v : Value} {n : Nat} {xs : List Value} {w w' : World} (h : w.ownsRow B e k v n xs) (hb : Below w.heap.size w w') : w'.ownsRow B e k v n xs := by
  refine ⟨h.1, ?_⟩
  rcases h.2 with h2 | ⟨g, cap, cur, h1, h2, h3, h4⟩
  · exact .inl h2
  · have hg : g < w.heap.size := by
      rcases Nat.lt_or_ge g w.heap.size with x | x
      · exact x
      · rw [Array.getElem?_eq_none x] at h3; cases h3
    exact .inr ⟨g, cap, cur, h1, h2, (hb.block g hg).trans h3, h4⟩
theorem Row.on {w w' : World} {base : Nat} {v : Value} {L : Ls} (h : Row w base v L) (hb : Below w.heap.size w w') : Row w' base v L := by
  obtain ⟨xs, h, hg⟩ := h
  exact ⟨xs, row_below h hb, hg.on hb⟩
theorem Row.reads {w : World} {base : Nat} {v : Value} {L : Ls} (h : Row w base v L) : Reads w v L := by
  obtain ⟨xs, h, hg⟩ := h
  rcases row_cases h with ⟨hn, rfl⟩ | ⟨g, cap, rfl, _, h2, h3, h4⟩
  · exact Or.inl ⟨List.eq_nil_of_length_eq_zero hn, _, _, rfl⟩
  · refine Or.inr ⟨g, 0, cap, rfl, h3, h4, h2, fun i hi => ?_⟩
    obtain ⟨h1, h2, h3, u, hu, hr⟩ := hg i hi
    refine ⟨(by rw [Nat.zero_add, h.cellAt (i * 4 + 1) (by omega)]; exact h1), (by rw [Nat.zero_add, h.cellAt (i * 4 + 2) (by omega)]; exact h2), (by rw [Nat.zero_add, h.cellAt (i * 4 + 3) (by omega)]; exact h3), u, ?_, Lists.reads_row hr⟩
    rw [Nat.zero_add, h.cellAt (i * 4) (by omega)]; exact hu

theorem Try.infoE : (Try.prog.info? 50).map (fun i => (i.zero, i.size, i.bytes)) = some (some (.agg #[.slice none 0 0, .int .i64 0, .int .i64 0, .int .i64 0]), 4, 48) := by kernel_rfl
end Go.Proofs.Ytfhpomfdkpfooaa.Tk
