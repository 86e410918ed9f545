/- Lists of structs of 6 numbers (iiissi): read, compared, copied, marked, held. -/
import Derived.Test.YtmbhlmpdkkjedaaSl
import Derived.OwnWalk
import Derived.WalkSmall
import Derived.Laws.OwnMore
import Derived.Deep.QuietTactic
import Derived.BigQuiet
import Derived.Deep.RegionHeld3
namespace Go.Proofs.Ytmbhlmpdkkjedaa.Sy
open Go.ChangeShapes Go.WideShapes Go.ChangeAt Go.RowKit
theorem run_store_float {P : Program} (w : World) (a : Addr) (m : Mode) (k : FloatKind) (b : Nat) : (store a (.float k b) m).run P w = stored P w a (.float k b) m := run_store P w a _ m rfl
attribute [local go_sem] run_store_float

abbrev Ls := List (Int × Int × Int × ByteArray × ByteArray × Int)
def c0 (L : Ls) (i : Nat) : Int := (L.getD i (0, 0, 0, ⟨#[]⟩, ⟨#[]⟩, 0)).1
def c1 (L : Ls) (i : Nat) : Int := (L.getD i (0, 0, 0, ⟨#[]⟩, ⟨#[]⟩, 0)).2.1
def c2 (L : Ls) (i : Nat) : Int := (L.getD i (0, 0, 0, ⟨#[]⟩, ⟨#[]⟩, 0)).2.2.1
def c3 (L : Ls) (i : Nat) : ByteArray := (L.getD i (0, 0, 0, ⟨#[]⟩, ⟨#[]⟩, 0)).2.2.2.1
def c4 (L : Ls) (i : Nat) : ByteArray := (L.getD i (0, 0, 0, ⟨#[]⟩, ⟨#[]⟩, 0)).2.2.2.2.1
def c5 (L : Ls) (i : Nat) : Int := (L.getD i (0, 0, 0, ⟨#[]⟩, ⟨#[]⟩, 0)).2.2.2.2.2
def Cs (w : World) (b o : Nat) (L : Ls) (i : Nat) : Prop := w.cell? ⟨b, o + i * 6, none⟩ = some (.int .i64 (c0 L i)) ∧ w.cell? ⟨b, o + i * 6 + 1, none⟩ = some (.int .i64 (c1 L i)) ∧ w.cell? ⟨b, o + i * 6 + 2, none⟩ = some (.int .i64 (c2 L i)) ∧ w.cell? ⟨b, o + i * 6 + 3, none⟩ = some (.string (c3 L i)) ∧ w.cell? ⟨b, o + i * 6 + 4, none⟩ = some (.string (c4 L i)) ∧ w.cell? ⟨b, o + i * 6 + 5, none⟩ = some (.int .i64 (c5 L i))
def Reads (w : World) (v : Value) (L : Ls) : Prop :=
  (L = [] ∧ ∃ a cap, v = .slice a 0 cap) ∨ ∃ b o cap, v = .slice (some ⟨b, o, none⟩) L.length cap ∧ L.length ≤ cap ∧ cap ≤ maxLen ∧ b < w.heap.size ∧ ∀ i, i < L.length → Cs w b o L i
theorem Cs.below {w w' : World} {b o B : Nat} {L : Ls} {i : Nat} (h : Cs w b o L i) (hb : Below B w w') (hB : b < B) : Cs w' b o L i := by
  obtain ⟨h0, h1, h2, h3, h4, h5⟩ := h
  exact ⟨(hb.cell (p := ⟨b, o + i * 6, none⟩) hB).trans h0, (hb.cell (p := ⟨b, o + i * 6 + 1, none⟩) hB).trans h1, (hb.cell (p := ⟨b, o + i * 6 + 2, none⟩) hB).trans h2, (hb.cell (p := ⟨b, o + i * 6 + 3, none⟩) hB).trans h3, (hb.cell (p := ⟨b, o + i * 6 + 4, none⟩) hB).trans h4, (hb.cell (p := ⟨b, o + i * 6 + 5, none⟩) hB).trans h5⟩
theorem Reads.below {w w' : World} {v : Value} {L : Ls} {B : Nat} (h : Reads w v L) (hb : Below B w w') (hB : w.heap.size ≤ B) : Reads w' v L := by
  rcases h with h | ⟨b, o, cap, h1, h2, h3, h4, h5⟩
  · exact Or.inl h
  · exact Or.inr ⟨b, o, cap, h1, h2, h3, Nat.lt_of_lt_of_le h4 hb.size, fun i hi => (h5 i hi).below hb (by omega)⟩
theorem Reads.on {w w' : World} {v : Value} {L : Ls} (h : Reads w v L) (hb : Below w.heap.size w w') : Reads w' v L := h.below hb (Nat.le_refl _)
theorem Reads.form {w : World} {v : Value} {L : Ls} (h : Reads w v L) : ∃ a cap, v = .slice a L.length cap := by
  rcases h with ⟨rfl, a, cap, rfl⟩ | ⟨b, o, cap, rfl, _⟩
  · exact ⟨_, _, rfl⟩
  · exact ⟨_, _, rfl⟩
theorem Reads.fits {w : World} {v : Value} {L : Ls} (h : Reads w v L) : L.length < 9223372036854775808 := by
  rcases h with ⟨rfl, _⟩ | ⟨b, o, c, _, h1, h2, _⟩
  · decide
  · unfold maxLen at h2; omega

def Good (xs : List Value) (L : Ls) (j : Nat) : Prop := ∀ i, i < j → xs[i * 6]? = some (.int .i64 (c0 L i)) ∧ xs[i * 6 + 1]? = some (.int .i64 (c1 L i)) ∧ xs[i * 6 + 2]? = some (.int .i64 (c2 L i)) ∧ xs[i * 6 + 3]? = some (.string (c3 L i)) ∧ xs[i * 6 + 4]? = some (.string (c4 L i)) ∧ xs[i * 6 + 5]? = some (.int .i64 (c5 L i))
theorem Good.next {xs : List Value} {L : Ls} {j : Nat} (h : Good xs L j) (hl : j * 6 + 5 < xs.length) : Good ((((((xs.set (j * 6) (.int .i64 (c0 L j))).set (j * 6 + 1) (.int .i64 (c1 L j))).set (j * 6 + 2) (.int .i64 (c2 L j))).set (j * 6 + 3) (.string (c3 L j))).set (j * 6 + 4) (.string (c4 L j))).set (j * 6 + 5) (.int .i64 (c5 L j))) L (j + 1) := by
  intro i hi
  by_cases e : i = j
  · subst e
    refine ⟨?_, ?_, ?_, ?_, ?_, ?_⟩
    · rw [List.getElem?_set_ne (by omega), List.getElem?_set_ne (by omega), List.getElem?_set_ne (by omega), List.getElem?_set_ne (by omega), List.getElem?_set_ne (by omega), List.getElem?_set_self (by first | omega | (simp; omega))]
    · rw [List.getElem?_set_ne (by omega), List.getElem?_set_ne (by omega), List.getElem?_set_ne (by omega), List.getElem?_set_ne (by omega), List.getElem?_set_self (by first | omega | (simp; omega))]
    · rw [List.getElem?_set_ne (by omega), List.getElem?_set_ne (by omega), List.getElem?_set_ne (by omega), List.getElem?_set_self (by first | omega | (simp; omega))]
    · rw [List.getElem?_set_ne (by omega), List.getElem?_set_ne (by omega), List.getElem?_set_self (by first | omega | (simp; omega))]
    · rw [List.getElem?_set_ne (by omega), List.getElem?_set_self (by first | omega | (simp; omega))]
    · rw [List.getElem?_set_self (by first | omega | (simp; omega))]
  · obtain ⟨h0, h1, h2, h3, h4, h5⟩ := h i (by omega)
    refine ⟨?_, ?_, ?_, ?_, ?_, ?_⟩
    · rw [List.getElem?_set_ne (by omega), List.getElem?_set_ne (by omega), List.getElem?_set_ne (by omega), List.getElem?_set_ne (by omega), List.getElem?_set_ne (by omega), List.getElem?_set_ne (by omega)]; exact h0
    · rw [List.getElem?_set_ne (by omega), List.getElem?_set_ne (by omega), List.getElem?_set_ne (by omega), List.getElem?_set_ne (by omega), List.getElem?_set_ne (by omega), List.getElem?_set_ne (by omega)]; exact h1
    · rw [List.getElem?_set_ne (by omega), List.getElem?_set_ne (by omega), List.getElem?_set_ne (by omega), List.getElem?_set_ne (by omega), List.getElem?_set_ne (by omega), List.getElem?_set_ne (by omega)]; exact h2
    · rw [List.getElem?_set_ne (by omega), List.getElem?_set_ne (by omega), List.getElem?_set_ne (by omega), List.getElem?_set_ne (by omega), List.getElem?_set_ne (by omega), List.getElem?_set_ne (by omega)]; exact h3
    · rw [List.getElem?_set_ne (by omega), List.getElem?_set_ne (by omega), List.getElem?_set_ne (by omega), List.getElem?_set_ne (by omega), List.getElem?_set_ne (by omega), List.getElem?_set_ne (by omega)]; exact h4
    · rw [List.getElem?_set_ne (by omega), List.getElem?_set_ne (by omega), List.getElem?_set_ne (by omega), List.getElem?_set_ne (by omega), List.getElem?_set_ne (by omega), List.getElem?_set_ne (by omega)]; exact h5

def Row (w : World) (base : Nat) (v : Value) (L : Ls) : Prop := ∃ xs, w.ownsRow base 32 6 v L.length xs ∧ Good xs L L.length
theorem row_cases {w : World} {base n : Nat} {e : TypeId} {k : Nat} {v : Value} {xs : List Value} (h : w.ownsRow base e k v n xs) :
    (n = 0 ∧ v = .slice none 0 0) ∨ ∃ g cap, v = .slice (some ⟨g, 0, none⟩) n cap ∧ base ≤ g ∧ g < w.heap.size ∧ n ≤ cap ∧ cap ≤ maxLen := by
  obtain ⟨h0, h⟩ := h
  rcases h with ⟨rfl, hn⟩ | ⟨g, cap, cur, rfl, hb, hh, hc, hm, _⟩
  · exact Or.inl ⟨hn, rfl⟩
  · refine Or.inr ⟨g, cap, rfl, hb, ?_, hc, hm⟩
    by_cases x : g < w.heap.size
    · exact x
    · rw [Array.getElem?_eq_none (by omega)] at hh; cases hh
theorem Row.reads {w : World} {base : Nat} {v : Value} {L : Ls} (h : Row w base v L) : Reads w v L := by
  obtain ⟨xs, h, hg⟩ := h
  rcases row_cases h with ⟨hn, rfl⟩ | ⟨g, cap, rfl, _, h2, h3, h4⟩
  · exact Or.inl ⟨List.eq_nil_of_length_eq_zero hn, _, _, rfl⟩
  · refine Or.inr ⟨g, 0, cap, rfl, h3, h4, h2, fun i hi => ?_⟩
    obtain ⟨h10, h11, h12, h13, h14, h15⟩ := hg i hi
    refine ⟨?_, ?_, ?_, ?_, ?_, ?_⟩
    · rw [Nat.zero_add, h.cellAt (i * 6) (by omega)]; exact h10
    · rw [Nat.zero_add, h.cellAt (i * 6 + 1) (by omega)]; exact h11
    · rw [Nat.zero_add, h.cellAt (i * 6 + 2) (by omega)]; exact h12
    · rw [Nat.zero_add, h.cellAt (i * 6 + 3) (by omega)]; exact h13
    · rw [Nat.zero_add, h.cellAt (i * 6 + 4) (by omega)]; exact h14
    · rw [Nat.zero_add, h.cellAt (i * 6 + 5) (by omega)]; exact h15
theorem row_below {B : Nat} {e : TypeId} {k : Nat} {v : Value} {n : Nat} {xs : List Value} {w w' : World} (h : w.ownsRow B e k v n xs) (hb : Below w.heap.size w w') : w'.ownsRow B e k v n xs := by
  refine ⟨h.1, ?_⟩
  rcases h.2 with h2 | ⟨g, cap, cur, h1, h2, h3, h4⟩
  · exact .inl h2
  · have hg : g < w.heap.size := by
      rcases Nat.lt_or_ge g w.heap.size with x | x
      · exact x
      · rw [Array.getElem?_eq_none x] at h3; cases h3
    exact .inr ⟨g, cap, cur, h1, h2, (hb.block g hg).trans h3, h4⟩
theorem row_grown {w w' : World} {base n k : Nat} {e : TypeId} {v : Value} {xs : List Value} {row : Option Nat} (h : w.ownsRow base e k v n xs) (hg : w.grownBy w' row) (hne : ∀ g, v.ownBlock = some g → row ≠ some g) : w'.ownsRow base e k v n xs := by
  refine ⟨h.1, ?_⟩
  rcases h.2 with h2 | ⟨g, cap, cur, h1, h2, h3, h4⟩
  · exact .inl h2
  · have hlt : g < w.heap.size := by
      rcases Nat.lt_or_ge g w.heap.size with x | x
      · exact x
      · rw [Array.getElem?_eq_none x] at h3; cases h3
    exact .inr ⟨g, cap, cur, h1, h2, (hg.block g hlt (fun e => hne g (by rw [h1]; rfl) e.symm)).trans h3, h4⟩
theorem Row.on {w w' : World} {base : Nat} {v : Value} {L : Ls} (h : Row w base v L) (hb : Below w.heap.size w w') : Row w' base v L := by
  obtain ⟨xs, h, hg⟩ := h
  exact ⟨xs, row_below h hb, hg⟩
theorem Row.grown {w w' : World} {base : Nat} {v : Value} {L : Ls} {row : Option Nat} (h : Row w base v L) (hb : w.grownBy w' row) (hne : ∀ g, v.ownBlock = some g → row ≠ some g) : Row w' base v L := by
  obtain ⟨xs, h, hg⟩ := h
  exact ⟨xs, row_grown h hb hne, hg⟩
theorem Row.lt {w : World} {base : Nat} {v : Value} {L : Ls} (h : Row w base v L) (g : Nat) (hg : v.ownBlock = some g) : base ≤ g ∧ g < w.heap.size := by
  obtain ⟨xs, h, _⟩ := h
  exact h.lt g hg
theorem Row.form {w : World} {base : Nat} {v : Value} {L : Ls} (h : Row w base v L) : ∃ a c, v = .slice a L.length c := h.reads.form
theorem grown_setCell {w w1 : World} {g : Nat} (h : w.grownBy w1 (some g)) (o : Nat) (u : Value) : w.grownBy (w1.setCell ⟨g, o, none⟩ u) (some g) := by
  refine ⟨h.os, h.tape, h.output, ?_, ?_⟩
  · have := ((Below.refl 0 w1).setCell (p := ⟨g, o, none⟩) (Nat.zero_le _) u).size
    exact Nat.le_trans h.size this
  · intro k hk hne
    rw [Below.heap_setCell w1 ⟨g, o, none⟩ u k (fun e => hne (by rw [e]))]
    exact h.block k hk hne

theorem good_snoc {xs : List Value} {C : Ls} {z0 : Int} {z1 : Int} {z2 : Int} {z3 : ByteArray} {z4 : ByteArray} {z5 : Int} (h : Good xs C C.length) (hl : xs.length = C.length * 6) : Good (xs ++ [.int .i64 z0, .int .i64 z1, .int .i64 z2, .string z3, .string z4, .int .i64 z5]) (C ++ [(z0, z1, z2, z3, z4, z5)]) (C ++ [(z0, z1, z2, z3, z4, z5)]).length := by
  intro i hi
  simp at hi
  by_cases e : i = C.length
  · subst e
    have q0 : c0 (C ++ [(z0, z1, z2, z3, z4, z5)]) C.length = z0 := by simp [c0]
    have q1 : c1 (C ++ [(z0, z1, z2, z3, z4, z5)]) C.length = z1 := by simp [c1]
    have q2 : c2 (C ++ [(z0, z1, z2, z3, z4, z5)]) C.length = z2 := by simp [c2]
    have q3 : c3 (C ++ [(z0, z1, z2, z3, z4, z5)]) C.length = z3 := by simp [c3]
    have q4 : c4 (C ++ [(z0, z1, z2, z3, z4, z5)]) C.length = z4 := by simp [c4]
    have q5 : c5 (C ++ [(z0, z1, z2, z3, z4, z5)]) C.length = z5 := by simp [c5]
    rw [q0, q1, q2, q3, q4, q5]
    refine ⟨?_, ?_, ?_, ?_, ?_, ?_⟩
    · rw [List.getElem?_append_right (by omega)]; simp [hl]
    · rw [List.getElem?_append_right (by omega), show C.length * 6 + 1 - xs.length = 1 by omega]; rfl
    · rw [List.getElem?_append_right (by omega), show C.length * 6 + 2 - xs.length = 2 by omega]; rfl
    · rw [List.getElem?_append_right (by omega), show C.length * 6 + 3 - xs.length = 3 by omega]; rfl
    · rw [List.getElem?_append_right (by omega), show C.length * 6 + 4 - xs.length = 4 by omega]; rfl
    · rw [List.getElem?_append_right (by omega), show C.length * 6 + 5 - xs.length = 5 by omega]; rfl
  · have hi' : i < C.length := by omega
    have q : (C ++ [(z0, z1, z2, z3, z4, z5)]).getD i (0, 0, 0, ⟨#[]⟩, ⟨#[]⟩, 0) = C.getD i (0, 0, 0, ⟨#[]⟩, ⟨#[]⟩, 0) := by simp [List.getD_eq_getElem?_getD, List.getElem?_append_left hi']
    have q0 : c0 (C ++ [(z0, z1, z2, z3, z4, z5)]) i = c0 C i := by unfold c0; rw [q]
    have q1 : c1 (C ++ [(z0, z1, z2, z3, z4, z5)]) i = c1 C i := by unfold c1; rw [q]
    have q2 : c2 (C ++ [(z0, z1, z2, z3, z4, z5)]) i = c2 C i := by unfold c2; rw [q]
    have q3 : c3 (C ++ [(z0, z1, z2, z3, z4, z5)]) i = c3 C i := by unfold c3; rw [q]
    have q4 : c4 (C ++ [(z0, z1, z2, z3, z4, z5)]) i = c4 C i := by unfold c4; rw [q]
    have q5 : c5 (C ++ [(z0, z1, z2, z3, z4, z5)]) i = c5 C i := by unfold c5; rw [q]
    rw [q0, q1, q2, q3, q4, q5]
    obtain ⟨h0, h1, h2, h3, h4, h5⟩ := h i hi'
    refine ⟨?_, ?_, ?_, ?_, ?_, ?_⟩
    · rw [List.getElem?_append_left (by omega)]; exact h0
    · rw [List.getElem?_append_left (by omega)]; exact h1
    · rw [List.getElem?_append_left (by omega)]; exact h2
    · rw [List.getElem?_append_left (by omega)]; exact h3
    · rw [List.getElem?_append_left (by omega)]; exact h4
    · rw [List.getElem?_append_left (by omega)]; exact h5
theorem cell_news (w : World) (v0 : Value) (v1 : Value) (v2 : Value) (v3 : Value) (v4 : Value) (v5 : Value) (t : TypeId) : ∀ j u, [v0, v1, v2, v3, v4, v5][j]? = some u → (w.alloc (Obj.cells #[v0, v1, v2, v3, v4, v5] t)).cell? ((⟨w.heap.size, 0, none⟩ : Addr).add j) = some u := by
  intro j u hj
  match j, hj with
  | 0, hj => simp at hj; subst hj; simp [Addr.add]
  | 1, hj => simp at hj; subst hj; simp [Addr.add]
  | 2, hj => simp at hj; subst hj; simp [Addr.add]
  | 3, hj => simp at hj; subst hj; simp [Addr.add]
  | 4, hj => simp at hj; subst hj; simp [Addr.add]
  | 5, hj => simp at hj; subst hj; simp [Addr.add]
theorem eq1_any (x0 x1 x2 : Int) (x3 x4 : ByteArray) (x5 : Int) (w : World) : Calls Try.prog 14 #[.agg #[.int .i64 x0, .int .i64 x1, .int .i64 x2, .string x3, .string x4, .int .i64 x5], .agg #[.int .i64 x0, .int .i64 x1, .int .i64 x2, .string x3, .string x4, .int .i64 x5]] w fun e w' => e = .returned (.bool true) ∧ Below w.heap.size w w' := Sk.eq_any x0 x1 x2 x3 x4 x5 w
set_option maxHeartbeats 1000000 in
theorem eq_zero (w : World) (a1 a2 : Option Addr) (d1 d2 : Nat) : Calls Try.prog 15 #[.slice a1 0 d1, .slice a2 0 d2] w fun e w' => e = .returned (.bool true) ∧ Below w.heap.size w w' := by
  go_enter Try.func15, Try.ntmps15
  go_wp2
  go_loop [5] (fun i => i = .int .i64 0) (fun _ => 0)
  case atStart => rfl
  case round =>
    subst hrel
    go_wp2
    go_ret
    exact ⟨rfl, Below.refl _ _⟩
set_option maxHeartbeats 1000000 in
theorem eq_same (w : World) (v1 v2 : Value) (L : Ls) (h1 : Reads w v1 L) (h2 : Reads w v2 L) :
    Calls Try.prog 15 #[v1, v2] w fun e w' => e = .returned (.bool true) ∧ Below w.heap.size w w' := by
  by_cases hL : L = []
  · subst hL
    obtain ⟨a, cap, rfl⟩ := h1.form
    obtain ⟨a2, cap2, rfl⟩ := h2.form
    exact eq_zero w _ _ _ _
  · rcases h1 with ⟨e, _⟩ | ⟨b1, o1, d1, rfl, x1, x2, x3, x4⟩
    · exact absurd e hL
    rcases h2 with ⟨e, _⟩ | ⟨b2, o2, d2, rfl, y1, y2, y3, y4⟩
    · exact absurd e hL
    have K1 : Hid (b1 < w.heap.size ∧ ∀ i, i < L.length → Cs w b1 o1 L i) := ⟨x3, x4⟩
    have K2 : Hid (b2 < w.heap.size ∧ ∀ i, i < L.length → Cs w b2 o2 L i) := ⟨y3, y4⟩
    obtain ⟨n, hn⟩ : ∃ n, n = L.length := ⟨_, rfl⟩
    rw [← hn] at x1 y1 ⊢
    have HN : Hid (n = L.length) := hn
    unfold maxLen at x2 y2
    clear x4 y4 hn hL
    go_enter Try.func15, Try.ntmps15
    go_wp2
    go_loopw [5] (fun i wr => ∃ k : Nat, k ≤ n ∧ i = .int .i64 k ∧ Hid (Below w.heap.size w wr)) (fun i _ => n - (intOf i).toNat)
    case atStart => exact ⟨0, Nat.zero_le _, rfl, Below.refl _ _⟩
    case round =>
      obtain ⟨k, hk, rfl, BR⟩ := hrel
      by_cases hlt : k < n
      · have i0 : (0 : Int) ≤ (k : Int) := by omega
        have i1 : (k : Int) < (n : Int) := by omega
        obtain ⟨q0, q1, q2, q3, q4, q5⟩ : Cs wr b1 o1 L k := (K1.out.2 k (by rw [← HN.out]; exact hlt)).below BR.out K1.out.1
        obtain ⟨r0, r1, r2, r3, r4, r5⟩ : Cs wr b2 o2 L k := (K2.out.2 k (by rw [← HN.out]; exact hlt)).below BR.out K2.out.1
        generalize c0 L k = u0 at *
        generalize c1 L k = u1 at *
        generalize c2 L k = u2 at *
        generalize c3 L k = u3 at *
        generalize c4 L k = u4 at *
        generalize c5 L k = u5 at *
        go_wp2_with fail
        go_region_held3 (fun w' => w'.cell? ⟨b1, o1 + k * 6, none⟩ = some (.int .i64 u0) ∧ w'.cell? ⟨b1, o1 + k * 6 + 1, none⟩ = some (.int .i64 u1) ∧ w'.cell? ⟨b1, o1 + k * 6 + 2, none⟩ = some (.int .i64 u2) ∧ w'.cell? ⟨b1, o1 + k * 6 + 3, none⟩ = some (.string u3) ∧ w'.cell? ⟨b1, o1 + k * 6 + 4, none⟩ = some (.string u4) ∧ w'.cell? ⟨b1, o1 + k * 6 + 5, none⟩ = some (.int .i64 u5) ∧ w'.cell? ⟨b2, o2 + k * 6, none⟩ = some (.int .i64 u0) ∧ w'.cell? ⟨b2, o2 + k * 6 + 1, none⟩ = some (.int .i64 u1) ∧ w'.cell? ⟨b2, o2 + k * 6 + 2, none⟩ = some (.int .i64 u2) ∧ w'.cell? ⟨b2, o2 + k * 6 + 3, none⟩ = some (.string u3) ∧ w'.cell? ⟨b2, o2 + k * 6 + 4, none⟩ = some (.string u4) ∧ w'.cell? ⟨b2, o2 + k * 6 + 5, none⟩ = some (.int .i64 u5)) (go_keep)
          (first
          | (go_at_call 14; refine (eq1_any _ _ _ _ _ _ _).mono ?_; rintro e w1 ⟨rfl, hb1⟩; have B1 := BR.out.drew.trans (hb1.mono BR.out.size); have k1 := K1.out.1; have k2 := K2.out.1; have s0 := (hb1.cell (p := ⟨b1, o1 + k * 6, none⟩) (Nat.lt_of_lt_of_le k1 BR.out.size)).trans q0; have s1 := (hb1.cell (p := ⟨b1, o1 + k * 6 + 1, none⟩) (Nat.lt_of_lt_of_le k1 BR.out.size)).trans q1; have s2 := (hb1.cell (p := ⟨b1, o1 + k * 6 + 2, none⟩) (Nat.lt_of_lt_of_le k1 BR.out.size)).trans q2; have s3 := (hb1.cell (p := ⟨b1, o1 + k * 6 + 3, none⟩) (Nat.lt_of_lt_of_le k1 BR.out.size)).trans q3; have s4 := (hb1.cell (p := ⟨b1, o1 + k * 6 + 4, none⟩) (Nat.lt_of_lt_of_le k1 BR.out.size)).trans q4; have s5 := (hb1.cell (p := ⟨b1, o1 + k * 6 + 5, none⟩) (Nat.lt_of_lt_of_le k1 BR.out.size)).trans q5; have t0 := (hb1.cell (p := ⟨b2, o2 + k * 6, none⟩) (Nat.lt_of_lt_of_le k2 BR.out.size)).trans r0; have t1 := (hb1.cell (p := ⟨b2, o2 + k * 6 + 1, none⟩) (Nat.lt_of_lt_of_le k2 BR.out.size)).trans r1; have t2 := (hb1.cell (p := ⟨b2, o2 + k * 6 + 2, none⟩) (Nat.lt_of_lt_of_le k2 BR.out.size)).trans r2; have t3 := (hb1.cell (p := ⟨b2, o2 + k * 6 + 3, none⟩) (Nat.lt_of_lt_of_le k2 BR.out.size)).trans r3; have t4 := (hb1.cell (p := ⟨b2, o2 + k * 6 + 4, none⟩) (Nat.lt_of_lt_of_le k2 BR.out.size)).trans r4; have t5 := (hb1.cell (p := ⟨b2, o2 + k * 6 + 5, none⟩) (Nat.lt_of_lt_of_le k2 BR.out.size)).trans r5))
        go_wp2_with fail
        go_roundw
        case rel => exact ⟨k + 1, by omega, by go_num, B1⟩
        case measure => simp [intOf]; omega
      · go_wp2
        go_ret
        exact ⟨rfl, BR.out⟩

end Go.Proofs.Ytmbhlmpdkkjedaa.Sy
