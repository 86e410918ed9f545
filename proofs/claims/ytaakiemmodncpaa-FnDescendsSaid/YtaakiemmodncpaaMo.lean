/- Lists of structs of 3 numbers (iii): read, compared, copied, marked, held. -/
import Derived.Test.YtaakiemmodncpaaXoA
import Derived.OwnWalk
import Derived.WalkSmall
import Derived.Laws.OwnMore
import Derived.Deep.QuietTactic
import Derived.BigQuiet
import Derived.Deep.RegionHeld3
namespace Go.Proofs.Ytaakiemmodncpaa.Mo
open Go.ChangeShapes Go.WideShapes Go.ChangeAt Go.RowKit
theorem run_store_float {P : Program} (w : World) (a : Addr) (m : Mode) (k : FloatKind) (b : Nat) : (store a (.float k b) m).run P w = stored P w a (.float k b) m := run_store P w a _ m rfl
attribute [local go_sem] run_store_float

abbrev Ls := List (Int × Int × Int)
def c0 (L : Ls) (i : Nat) : Int := (L.getD i (0, 0, 0)).1
def c1 (L : Ls) (i : Nat) : Int := (L.getD i (0, 0, 0)).2.1
def c2 (L : Ls) (i : Nat) : Int := (L.getD i (0, 0, 0)).2.2
def Cs (w : World) (b o : Nat) (L : Ls) (i : Nat) : Prop := w.cell? ⟨b, o + i * 3, none⟩ = some (.int .i64 (c0 L i)) ∧ w.cell? ⟨b, o + i * 3 + 1, none⟩ = some (.int .i64 (c1 L i)) ∧ w.cell? ⟨b, o + i * 3 + 2, none⟩ = some (.int .i64 (c2 L i))
def Reads (w : World) (v : Value) (L : Ls) : Prop :=
  (L = [] ∧ ∃ a cap, v = .slice a 0 cap) ∨ ∃ b o cap, v = .slice (some ⟨b, o, none⟩) L.length cap ∧ L.length ≤ cap ∧ cap ≤ maxLen ∧ b < w.heap.size ∧ ∀ i, i < L.length → Cs w b o L i
theorem Cs.below {w w' : World} {b o B : Nat} {L : Ls} {i : Nat} (h : Cs w b o L i) (hb : Below B w w') (hB : b < B) : Cs w' b o L i := by
  obtain ⟨h0, h1, h2⟩ := h
  exact ⟨(hb.cell (p := ⟨b, o + i * 3, none⟩) hB).trans h0, (hb.cell (p := ⟨b, o + i * 3 + 1, none⟩) hB).trans h1, (hb.cell (p := ⟨b, o + i * 3 + 2, none⟩) hB).trans h2⟩
theorem Reads.below {w w' : World} {v : Value} {L : Ls} {B : Nat} (h : Reads w v L) (hb : Below B w w') (hB : w.heap.size ≤ B) : Reads w' v L := by
  rcases h with h | ⟨b, o, cap, h1, h2, h3, h4, h5⟩
  · exact Or.inl h
  · exact Or.inr ⟨b, o, cap, h1, h2, h3, Nat.lt_of_lt_of_le h4 hb.size, fun i hi => (h5 i hi).below hb (by omega)⟩
theorem Reads.on {w w' : World} {v : Value} {L : Ls} (h : Reads w v L) (hb : Below w.heap.size w w') : Reads w' v L := h.below hb (Nat.le_refl _)
theorem Reads.form {w : World} {v : Value} {L : Ls} (h : Reads w v L) : ∃ a cap, v = .slice a L.length cap := by
  rcases h with ⟨rfl, a, cap, rfl⟩ | ⟨b, o, cap, rfl, _⟩
  · exact ⟨_, _, rfl⟩
  · exact ⟨_, _, rfl⟩
theorem Reads.fits {w : World} {v : Value} {L : Ls} (h : Reads w v L) : L.length < 9223372036854775808 := by
  rcases h with ⟨rfl, _⟩ | ⟨b, o, c, _, h1, h2, _⟩
  · decide
  · unfold maxLen at h2; omega

def Good (xs : List Value) (L : Ls) (j : Nat) : Prop := ∀ i, i < j → xs[i * 3]? = some (.int .i64 (c0 L i)) ∧ xs[i * 3 + 1]? = some (.int .i64 (c1 L i)) ∧ xs[i * 3 + 2]? = some (.int .i64 (c2 L i))
theorem Good.next {xs : List Value} {L : Ls} {j : Nat} (h : Good xs L j) (hl : j * 3 + 2 < xs.length) : Good (((xs.set (j * 3) (.int .i64 (c0 L j))).set (j * 3 + 1) (.int .i64 (c1 L j))).set (j * 3 + 2) (.int .i64 (c2 L j))) L (j + 1) := by
  intro i hi
  by_cases e : i = j
  · subst e
    refine ⟨?_, ?_, ?_⟩
    · rw [List.getElem?_set_ne (by omega), List.getElem?_set_ne (by omega), List.getElem?_set_self (by first | omega | (simp; omega))]
    · rw [List.getElem?_set_ne (by omega), List.getElem?_set_self (by first | omega | (simp; omega))]
    · rw [List.getElem?_set_self (by first | omega | (simp; omega))]
  · obtain ⟨h0, h1, h2⟩ := h i (by omega)
    refine ⟨?_, ?_, ?_⟩
    · rw [List.getElem?_set_ne (by omega), List.getElem?_set_ne (by omega), List.getElem?_set_ne (by omega)]; exact h0
    · rw [List.getElem?_set_ne (by omega), List.getElem?_set_ne (by omega), List.getElem?_set_ne (by omega)]; exact h1
    · rw [List.getElem?_set_ne (by omega), List.getElem?_set_ne (by omega), List.getElem?_set_ne (by omega)]; exact h2

def Row (w : World) (base : Nat) (v : Value) (L : Ls) : Prop := ∃ xs, w.ownsRow base 48 3 v L.length xs ∧ Good xs L L.length
theorem row_cases {w : World} {base n : Nat} {e : TypeId} {k : Nat} {v : Value} {xs : List Value} (h : w.ownsRow base e k v n xs) :
    (n = 0 ∧ v = .slice none 0 0) ∨ ∃ g cap, v = .slice (some ⟨g, 0, none⟩) n cap ∧ base ≤ g ∧ g < w.heap.size ∧ n ≤ cap ∧ cap ≤ maxLen := by
  obtain ⟨h0, h⟩ := h
  rcases h with ⟨rfl, hn⟩ | ⟨g, cap, cur, rfl, hb, hh, hc, hm, _⟩
  · exact Or.inl ⟨hn, rfl⟩
  · refine Or.inr ⟨g, cap, rfl, hb, ?_, hc, hm⟩
    by_cases x : g < w.heap.size
    · exact x
    · rw [Array.getElem?_eq_none (by omega)] at hh; cases hh
theorem Row.reads {w : World} {base : Nat} {v : Value} {L : Ls} (h : Row w base v L) : Reads w v L := by
  obtain ⟨xs, h, hg⟩ := h
  rcases row_cases h with ⟨hn, rfl⟩ | ⟨g, cap, rfl, _, h2, h3, h4⟩
  · exact Or.inl ⟨List.eq_nil_of_length_eq_zero hn, _, _, rfl⟩
  · refine Or.inr ⟨g, 0, cap, rfl, h3, h4, h2, fun i hi => ?_⟩
    obtain ⟨h10, h11, h12⟩ := hg i hi
    refine ⟨?_, ?_, ?_⟩
    · rw [Nat.zero_add, h.cellAt (i * 3) (by omega)]; exact h10
    · rw [Nat.zero_add, h.cellAt (i * 3 + 1) (by omega)]; exact h11
    · rw [Nat.zero_add, h.cellAt (i * 3 + 2) (by omega)]; exact h12
theorem row_below {B : Nat} {e : TypeId} {k : Nat} {v : Value} {n : Nat} {xs : List Value} {w w' : World} (h : w.ownsRow B e k v n xs) (hb : Below w.heap.size w w') : w'.ownsRow B e k v n xs := by
  refine ⟨h.1, ?_⟩
  rcases h.2 with h2 | ⟨g, cap, cur, h1, h2, h3, h4⟩
  · exact .inl h2
  · have hg : g < w.heap.size := by
      rcases Nat.lt_or_ge g w.heap.size with x | x
      · exact x
      · rw [Array.getElem?_eq_none x] at h3; cases h3
    exact .inr ⟨g, cap, cur, h1, h2, (hb.block g hg).trans h3, h4⟩
theorem row_grown {w w' : World} {base n k : Nat} {e : TypeId} {v : Value} {xs : List Value} {row : Option Nat} (h : w.ownsRow base e k v n xs) (hg : w.grownBy w' row) (hne : ∀ g, v.ownBlock = some g → row ≠ some g) : w'.ownsRow base e k v n xs := by
  refine ⟨h.1, ?_⟩
  rcases h.2 with h2 | ⟨g, cap, cur, h1, h2, h3, h4⟩
  · exact .inl h2
  · have hlt : g < w.heap.size := by
      rcases Nat.lt_or_ge g w.heap.size with x | x
      · exact x
      · rw [Array.getElem?_eq_none x] at h3; cases h3
    exact .inr ⟨g, cap, cur, h1, h2, (hg.block g hlt (fun e => hne g (by rw [h1]; rfl) e.symm)).trans h3, h4⟩
theorem Row.on {w w' : World} {base : Nat} {v : Value} {L : Ls} (h : Row w base v L) (hb : Below w.heap.size w w') : Row w' base v L := by
  obtain ⟨xs, h, hg⟩ := h
  exact ⟨xs, row_below h hb, hg⟩
theorem Row.grown {w w' : World} {base : Nat} {v : Value} {L : Ls} {row : Option Nat} (h : Row w base v L) (hb : w.grownBy w' row) (hne : ∀ g, v.ownBlock = some g → row ≠ some g) : Row w' base v L := by
  obtain ⟨xs, h, hg⟩ := h
  exact ⟨xs, row_grown h hb hne, hg⟩
theorem Row.lt {w : World} {base : Nat} {v : Value} {L : Ls} (h : Row w base v L) (g : Nat) (hg : v.ownBlock = some g) : base ≤ g ∧ g < w.heap.size := by
  obtain ⟨xs, h, _⟩ := h
  exact h.lt g hg
theorem Row.form {w : World} {base : Nat} {v : Value} {L : Ls} (h : Row w base v L) : ∃ a c, v = .slice a L.length c := h.reads.form
theorem grown_setCell {w w1 : World} {g : Nat} (h : w.grownBy w1 (some g)) (o : Nat) (u : Value) : w.grownBy (w1.setCell ⟨g, o, none⟩ u) (some g) := by
  refine ⟨h.os, h.tape, h.output, ?_, ?_⟩
  · have := ((Below.refl 0 w1).setCell (p := ⟨g, o, none⟩) (Nat.zero_le _) u).size
    exact Nat.le_trans h.size this
  · intro k hk hne
    rw [Below.heap_setCell w1 ⟨g, o, none⟩ u k (fun e => hne (by rw [e]))]
    exact h.block k hk hne

theorem good_snoc {xs : List Value} {C : Ls} {z0 : Int} {z1 : Int} {z2 : Int} (h : Good xs C C.length) (hl : xs.length = C.length * 3) : Good (xs ++ [.int .i64 z0, .int .i64 z1, .int .i64 z2]) (C ++ [(z0, z1, z2)]) (C ++ [(z0, z1, z2)]).length := by
  intro i hi
  simp at hi
  by_cases e : i = C.length
  · subst e
    have q0 : c0 (C ++ [(z0, z1, z2)]) C.length = z0 := by simp [c0]
    have q1 : c1 (C ++ [(z0, z1, z2)]) C.length = z1 := by simp [c1]
    have q2 : c2 (C ++ [(z0, z1, z2)]) C.length = z2 := by simp [c2]
    rw [q0, q1, q2]
    refine ⟨?_, ?_, ?_⟩
    · rw [List.getElem?_append_right (by omega)]; simp [hl]
    · rw [List.getElem?_append_right (by omega), show C.length * 3 + 1 - xs.length = 1 by omega]; rfl
    · rw [List.getElem?_append_right (by omega), show C.length * 3 + 2 - xs.length = 2 by omega]; rfl
  · have hi' : i < C.length := by omega
    have q : (C ++ [(z0, z1, z2)]).getD i (0, 0, 0) = C.getD i (0, 0, 0) := by simp [List.getD_eq_getElem?_getD, List.getElem?_append_left hi']
    have q0 : c0 (C ++ [(z0, z1, z2)]) i = c0 C i := by unfold c0; rw [q]
    have q1 : c1 (C ++ [(z0, z1, z2)]) i = c1 C i := by unfold c1; rw [q]
    have q2 : c2 (C ++ [(z0, z1, z2)]) i = c2 C i := by unfold c2; rw [q]
    rw [q0, q1, q2]
    obtain ⟨h0, h1, h2⟩ := h i hi'
    refine ⟨?_, ?_, ?_⟩
    · rw [List.getElem?_append_left (by omega)]; exact h0
    · rw [List.getElem?_append_left (by omega)]; exact h1
    · rw [List.getElem?_append_left (by omega)]; exact h2
theorem cell_news (w : World) (v0 : Value) (v1 : Value) (v2 : Value) (t : TypeId) : ∀ j u, [v0, v1, v2][j]? = some u → (w.alloc (Obj.cells #[v0, v1, v2] t)).cell? ((⟨w.heap.size, 0, none⟩ : Addr).add j) = some u := by
  intro j u hj
  match j, hj with
  | 0, hj => simp at hj; subst hj; simp [Addr.add]
  | 1, hj => simp at hj; subst hj; simp [Addr.add]
  | 2, hj => simp at hj; subst hj; simp [Addr.add]
set_option maxHeartbeats 1000000 in
theorem eq1_any (x0 : Int) (x1 : Int) (x2 : Int) (w : World) : Calls Try.prog 36 #[.agg #[.int .i64 x0, .int .i64 x1, .int .i64 x2], .agg #[.int .i64 x0, .int .i64 x1, .int .i64 x2]] w fun e w' => e = .returned (.bool true) ∧ Below w.heap.size w w' := by
  go_enter Try.func36, Try.ntmps36
  go_wp2_with fail
  go_ret
  exact ⟨rfl, ((Below.refl _ _).alloc (Nat.le_refl _) _).alloc (by simp) _⟩

set_option maxHeartbeats 1000000 in
theorem eq_zero (w : World) (a1 a2 : Option Addr) (d1 d2 : Nat) : Calls Try.prog 10 #[.slice a1 0 d1, .slice a2 0 d2] w fun e w' => e = .returned (.bool true) ∧ Below w.heap.size w w' := by
  go_enter Try.func10, Try.ntmps10
  go_wp2
  go_loop [5] (fun i => i = .int .i64 0) (fun _ => 0)
  case atStart => rfl
  case round =>
    subst hrel
    go_wp2
    go_ret
    exact ⟨rfl, Below.refl _ _⟩
set_option maxHeartbeats 1000000 in
theorem eq_same (w : World) (v1 v2 : Value) (L : Ls) (h1 : Reads w v1 L) (h2 : Reads w v2 L) :
    Calls Try.prog 10 #[v1, v2] w fun e w' => e = .returned (.bool true) ∧ Below w.heap.size w w' := by
  by_cases hL : L = []
  · subst hL
    obtain ⟨a, cap, rfl⟩ := h1.form
    obtain ⟨a2, cap2, rfl⟩ := h2.form
    exact eq_zero w _ _ _ _
  · rcases h1 with ⟨e, _⟩ | ⟨b1, o1, d1, rfl, x1, x2, x3, x4⟩
    · exact absurd e hL
    rcases h2 with ⟨e, _⟩ | ⟨b2, o2, d2, rfl, y1, y2, y3, y4⟩
    · exact absurd e hL
    have K1 : Hid (b1 < w.heap.size ∧ ∀ i, i < L.length → Cs w b1 o1 L i) := ⟨x3, x4⟩
    have K2 : Hid (b2 < w.heap.size ∧ ∀ i, i < L.length → Cs w b2 o2 L i) := ⟨y3, y4⟩
    obtain ⟨n, hn⟩ : ∃ n, n = L.length := ⟨_, rfl⟩
    rw [← hn] at x1 y1 ⊢
    have HN : Hid (n = L.length) := hn
    unfold maxLen at x2 y2
    clear x4 y4 hn hL
    go_enter Try.func10, Try.ntmps10
    go_wp2
    go_loopw [5] (fun i wr => ∃ k : Nat, k ≤ n ∧ i = .int .i64 k ∧ Hid (Below w.heap.size w wr)) (fun i _ => n - (intOf i).toNat)
    case atStart => exact ⟨0, Nat.zero_le _, rfl, Below.refl _ _⟩
    case round =>
      obtain ⟨k, hk, rfl, BR⟩ := hrel
      by_cases hlt : k < n
      · have i0 : (0 : Int) ≤ (k : Int) := by omega
        have i1 : (k : Int) < (n : Int) := by omega
        obtain ⟨q0, q1, q2⟩ : Cs wr b1 o1 L k := (K1.out.2 k (by rw [← HN.out]; exact hlt)).below BR.out K1.out.1
        obtain ⟨r0, r1, r2⟩ : Cs wr b2 o2 L k := (K2.out.2 k (by rw [← HN.out]; exact hlt)).below BR.out K2.out.1
        generalize c0 L k = u0 at *
        generalize c1 L k = u1 at *
        generalize c2 L k = u2 at *
        go_wp2_with fail
        go_region_held3 (fun w' => w'.cell? ⟨b1, o1 + k * 3, none⟩ = some (.int .i64 u0) ∧ w'.cell? ⟨b1, o1 + k * 3 + 1, none⟩ = some (.int .i64 u1) ∧ w'.cell? ⟨b1, o1 + k * 3 + 2, none⟩ = some (.int .i64 u2) ∧ w'.cell? ⟨b2, o2 + k * 3, none⟩ = some (.int .i64 u0) ∧ w'.cell? ⟨b2, o2 + k * 3 + 1, none⟩ = some (.int .i64 u1) ∧ w'.cell? ⟨b2, o2 + k * 3 + 2, none⟩ = some (.int .i64 u2)) (go_keep)
          (first
          | (go_at_call 36; refine (eq1_any _ _ _ _).mono ?_; rintro e w1 ⟨rfl, hb1⟩; have B1 := BR.out.drew.trans (hb1.mono BR.out.size); have k1 := K1.out.1; have k2 := K2.out.1; have s0 := (hb1.cell (p := ⟨b1, o1 + k * 3, none⟩) (Nat.lt_of_lt_of_le k1 BR.out.size)).trans q0; have s1 := (hb1.cell (p := ⟨b1, o1 + k * 3 + 1, none⟩) (Nat.lt_of_lt_of_le k1 BR.out.size)).trans q1; have s2 := (hb1.cell (p := ⟨b1, o1 + k * 3 + 2, none⟩) (Nat.lt_of_lt_of_le k1 BR.out.size)).trans q2; have t0 := (hb1.cell (p := ⟨b2, o2 + k * 3, none⟩) (Nat.lt_of_lt_of_le k2 BR.out.size)).trans r0; have t1 := (hb1.cell (p := ⟨b2, o2 + k * 3 + 1, none⟩) (Nat.lt_of_lt_of_le k2 BR.out.size)).trans r1; have t2 := (hb1.cell (p := ⟨b2, o2 + k * 3 + 2, none⟩) (Nat.lt_of_lt_of_le k2 BR.out.size)).trans r2))
        go_wp2_with fail
        go_roundw
        case rel => exact ⟨k + 1, by omega, by go_num, B1⟩
        case measure => simp [intOf]; omega
      · go_wp2
        go_ret
        exact ⟨rfl, BR.out⟩

def mks (n : Nat) : Ls := (List.range n).map fun (i : Nat) => (1 + (i : Int) * 3, 1 + (i : Int) * 3 + 1, 1 + (i : Int) * 3 + 1 + 1)
theorem mks_len (n : Nat) : (mks n).length = n := by simp [mks]
theorem mks_at (n i : Nat) (h : i < n) : c0 (mks n) i = 1 + (i : Int) * 3 ∧ c1 (mks n) i = 1 + (i : Int) * 3 + 1 ∧ c2 (mks n) i = 1 + (i : Int) * 3 + 1 + 1 := by
  simp [c0, c1, c2, mks, List.getD_eq_getElem?_getD, h]
set_option maxHeartbeats 1000000 in
theorem mark_any (w : World) (base n : Nat) (v : Value) (xs : List Value) (hn : n ≤ 1048576) (h : w.ownsRow base 48 3 v n xs) :
    Calls Try.prog 15 #[v, .int .i64 1] w fun e w' => e = .returned (.int .i64 (1 + (n : Int) * 3)) ∧ Row w' base v (mks n) ∧ w.grownBy w' v.ownBlock := by
  unfold Row
  rw [mks_len]
  have GE : Hid (∀ xs, Good xs (mks 0) 0) := fun xs i hi => absurd hi (by omega)
  rcases row_cases h with ⟨rfl, rfl⟩ | ⟨g, c, rfl, g0, g1, x1, x2⟩
  · go_enter Try.func15, Try.ntmps15
    go_wp2
    go_loop [1, 5] (fun k i => k = .int .i64 1 ∧ i = .int .i64 0) (fun _ _ => 0)
    case atStart => exact ⟨rfl, rfl⟩
    case round =>
      obtain ⟨rfl, rfl⟩ := hrel
      go_wp2
      go_ret
      exact ⟨rfl, ⟨[], ⟨rfl, .inl ⟨rfl, rfl⟩⟩, GE.out _⟩, World.grownBy.refl _ _⟩
  · have H0 : Hid (∃ xs, w.ownsRow base 48 3 (.slice (some ⟨g, 0, none⟩) n c) n xs ∧ Good xs (mks n) 0) := ⟨_, h, fun i hi => absurd hi (by omega)⟩
    have HM : Hid (∀ i, i < n → c0 (mks n) i = 1 + (i : Int) * 3 ∧ c1 (mks n) i = 1 + (i : Int) * 3 + 1 ∧ c2 (mks n) i = 1 + (i : Int) * 3 + 1 + 1) := fun i hi => mks_at n i hi
    unfold maxLen at x2
    generalize mks n = M at *
    clear h
    go_enter Try.func15, Try.ntmps15
    go_wp2
    go_loopw [1, 5] (fun q i wr => ∃ k : Nat, k ≤ n ∧ i = .int .i64 k ∧ q = .int .i64 (1 + (k : Int) * 3) ∧ Hid (∃ xs, wr.ownsRow base 48 3 (.slice (some ⟨g, 0, none⟩) n c) n xs ∧ Good xs M k) ∧ Hid (w.grownBy wr (some g))) (fun _ i _ => n - (intOf i).toNat)
    case atStart => exact ⟨0, Nat.zero_le _, rfl, rfl, H0, World.grownBy.refl _ _⟩
    case round =>
      obtain ⟨k, hk, rfl, rfl, R, GR⟩ := hrel
      by_cases hlt : k < n
      · obtain ⟨xs, R1, R2⟩ := R.out
        have lx : xs.length = n * 3 := R1.1
        have i0 : (0 : Int) ≤ (k : Int) := by omega
        have i1 : (k : Int) < (n : Int) := by omega
        obtain ⟨z0, q0⟩ : ∃ z, wr.cell? ⟨g, k * 3, none⟩ = some z := ⟨xs[k * 3]'(by omega), by rw [R1.cellAt (k * 3) (by omega)]; exact List.getElem?_eq_getElem _⟩
        obtain ⟨z1, q1⟩ : ∃ z, wr.cell? ⟨g, k * 3 + 1, none⟩ = some z := ⟨xs[k * 3 + 1]'(by omega), by rw [R1.cellAt (k * 3 + 1) (by omega)]; exact List.getElem?_eq_getElem _⟩
        obtain ⟨z2, q2⟩ : ∃ z, wr.cell? ⟨g, k * 3 + 2, none⟩ = some z := ⟨xs[k * 3 + 2]'(by omega), by rw [R1.cellAt (k * 3 + 2) (by omega)]; exact List.getElem?_eq_getElem _⟩
        have f0 : wr.frozen? ⟨g, k * 3, none⟩ = false := R1.frozenAt _
        have f1 : wr.frozen? ⟨g, k * 3 + 1, none⟩ = false := R1.frozenAt _
        have f2 : wr.frozen? ⟨g, k * 3 + 2, none⟩ = false := R1.frozenAt _
        have R' : Hid (∃ xs, (((wr.setCell ⟨g, k * 3, none⟩ (.int .i64 (1 + (k : Int) * 3))).setCell ⟨g, k * 3 + 1, none⟩ (.int .i64 (1 + (k : Int) * 3 + 1))).setCell ⟨g, k * 3 + 2, none⟩ (.int .i64 (1 + (k : Int) * 3 + 1 + 1))).ownsRow base 48 3 (.slice (some ⟨g, 0, none⟩) n c) n xs ∧ Good xs M (k + 1)) := by
          refine ⟨_, (((R1.stored (k * 3) _).1.stored (k * 3 + 1) _).1.stored (k * 3 + 2) _).1, ?_⟩
          have nx := R2.next (by omega)
          obtain ⟨m0, m1, m2⟩ := HM.out k hlt
          rw [m0, m1, m2] at nx
          exact nx
        have G' : Hid (w.grownBy (((wr.setCell ⟨g, k * 3, none⟩ (.int .i64 (1 + (k : Int) * 3))).setCell ⟨g, k * 3 + 1, none⟩ (.int .i64 (1 + (k : Int) * 3 + 1))).setCell ⟨g, k * 3 + 2, none⟩ (.int .i64 (1 + (k : Int) * 3 + 1 + 1))) (some g)) := (grown_setCell (grown_setCell (grown_setCell GR.out _ _) _ _) _ _)
        have j0 : IntKind.i64.wrap (1 + (k : Int) * 3) = 1 + (k : Int) * 3 := IntWalk.i64_in _ (by omega)
        have j1 : IntKind.i64.wrap (1 + (k : Int) * 3 + 1) = 1 + (k : Int) * 3 + 1 := IntWalk.i64_in _ (by omega)
        have j2 : IntKind.i64.wrap (1 + (k : Int) * 3 + 1 + 1) = 1 + (k : Int) * 3 + 1 + 1 := IntWalk.i64_in _ (by omega)
        have j3 : IntKind.i64.wrap (1 + (k : Int) * 3 + 1 + 1 + 1) = 1 + (k : Int) * 3 + 1 + 1 + 1 := IntWalk.i64_in _ (by omega)
        obtain ⟨y, hy⟩ : ∃ y, 1 + (k : Int) * 3 = y := ⟨_, rfl⟩
        have HY : Hid (1 + (k : Int) * 3 = y) := hy
        rw [hy] at R' G' j0 j1 j2 j3 ⊢
        clear R R1 R2 lx hy HM GE
        go_wp2_with fail
        go_roundw
        case rel => exact ⟨k + 1, by omega, by go_num, by congr 1; have := HY.out; omega, R', G'⟩
        case measure => simp [intOf]; omega
      · have e : k = n := by omega
        subst e
        have RE : Hid (∃ xs, wr.ownsRow base 48 3 (.slice (some ⟨g, 0, none⟩) k c) k xs ∧ Good xs M k) := R
        have j1 : ¬ (k : Int) < (k : Int) := by omega
        clear R
        go_wp2_with fail
        go_ret
        exact ⟨rfl, RE.out, GR.out⟩

set_option maxHeartbeats 1000000 in
theorem held_any (w : World) (v : Value) (n : Nat) (hn : n ≤ 1048576) (h : Reads w v (mks n)) :
    Calls Try.prog 16 #[v, .int .i64 1] w fun e w' => e = .returned (.int .i64 (1 + (n : Int) * 3)) ∧ ∃ m, w' = w.drewN m := by
  by_cases h0 : n = 0
  · subst h0
    obtain ⟨a, cap, rfl⟩ := h.form
    rw [mks_len]
    clear h
    go_enter Try.func16, Try.ntmps16
    go_wp2
    go_loop [1, 5] (fun k i => k = .int .i64 1 ∧ i = .int .i64 0) (fun _ _ => 0)
    case atStart => exact ⟨rfl, rfl⟩
    case round =>
      obtain ⟨rfl, rfl⟩ := hrel
      go_wp2
      go_ret
      exact ⟨rfl, 0, rfl⟩
  · rcases h with ⟨e, _⟩ | ⟨b, o, d, rfl, x1, x2, x3, x4⟩
    · exact absurd (by have := mks_len n; rw [e] at this; exact this.symm) h0
    rw [mks_len] at x1 x4 ⊢
    have HC : Hid (∀ i, i < n → Cs w b o (mks n) i) := x4
    unfold maxLen at x2
    clear x4
    go_enter Try.func16, Try.ntmps16
    go_wp2
    go_loopw [1, 5] (fun q i wr => ∃ k m : Nat, k ≤ n ∧ i = .int .i64 k ∧ q = .int .i64 (1 + (k : Int) * 3) ∧ Hid (wr = w.drewN m)) (fun _ i _ => n - (intOf i).toNat)
    case atStart => exact ⟨0, 0, Nat.zero_le _, rfl, rfl, rfl⟩
    case round =>
      obtain ⟨k, m, hk, rfl, rfl, HR⟩ := hrel
      by_cases hlt : k < n
      · have qq : Cs wr b o (mks n) k := by rw [HR.out]; exact HC.out k hlt
        obtain ⟨m0, m1, m2⟩ := mks_at n k hlt
        unfold Cs at qq
        rw [m0, m1, m2] at qq
        obtain ⟨q0, q1, q2⟩ := qq
        have i0 : (0 : Int) ≤ (k : Int) := by omega
        have i1 : (k : Int) < (n : Int) := by omega
        have j0 : IntKind.i64.wrap (1 + (k : Int) * 3) = 1 + (k : Int) * 3 := IntWalk.i64_in _ (by omega)
        have j1 : IntKind.i64.wrap (1 + (k : Int) * 3 + 1) = 1 + (k : Int) * 3 + 1 := IntWalk.i64_in _ (by omega)
        have j2 : IntKind.i64.wrap (1 + (k : Int) * 3 + 1 + 1) = 1 + (k : Int) * 3 + 1 + 1 := IntWalk.i64_in _ (by omega)
        have j3 : IntKind.i64.wrap (1 + (k : Int) * 3 + 1 + 1 + 1) = 1 + (k : Int) * 3 + 1 + 1 + 1 := IntWalk.i64_in _ (by omega)
        obtain ⟨y, hy⟩ : ∃ y, 1 + (k : Int) * 3 = y := ⟨_, rfl⟩
        have HY : Hid (1 + (k : Int) * 3 = y) := hy
        rw [hy] at q0 q1 q2 j0 j1 j2 j3  ⊢
        clear hy m0 m1 m2
        go_wp2_with fail
        go_roundw
        case rel => exact ⟨k + 1, m, by omega, by go_num, by congr 1; have := HY.out; omega, HR⟩
        case measure => simp [intOf]; omega
      · have e : k = n := by omega
        subst e
        have j1 : ¬ (k : Int) < (k : Int) := by omega
        go_wp2_with fail
        go_ret
        exact ⟨rfl, m, HR.out⟩

end Go.Proofs.Ytaakiemmodncpaa.Mo
