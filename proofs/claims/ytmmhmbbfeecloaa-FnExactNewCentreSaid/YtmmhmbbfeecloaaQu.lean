/- Queues that hold nothing: read, compared, marked, held. -/
import Derived.Test.YtmmhmbbfeecloaaCl
import Derived.Test.YtmmhmbbfeecloaaRtM
namespace Go.Proofs.Ytmmhmbbfeecloaa.Qu
open Go.ChangeShapes Go.WideShapes Go.ChangeAt Go.RowKit
abbrev Qs := List (Int × Int × Int)
def q0 (L : Qs) (i : Nat) : Int := (L.getD i (0, 0, 0)).1
def q1 (L : Qs) (i : Nat) : Int := (L.getD i (0, 0, 0)).2.1
def q2 (L : Qs) (i : Nat) : Int := (L.getD i (0, 0, 0)).2.2
abbrev nil : Value := .slice none 0 0
def Cs (w : World) (b o : Nat) (L : Qs) (i : Nat) : Prop := w.cell? ⟨b, o + i * 4, none⟩ = some (.int .i64 (q0 L i)) ∧ w.cell? ⟨b, o + i * 4 + 1, none⟩ = some nil ∧ w.cell? ⟨b, o + i * 4 + 2, none⟩ = some (.int .i64 (q1 L i)) ∧ w.cell? ⟨b, o + i * 4 + 3, none⟩ = some (.int .i64 (q2 L i))
def Reads (w : World) (v : Value) (L : Qs) : Prop :=
  (L = [] ∧ ∃ a cap, v = .slice a 0 cap) ∨ ∃ b o cap, v = .slice (some ⟨b, o, none⟩) L.length cap ∧ L.length ≤ cap ∧ cap ≤ maxLen ∧ b < w.heap.size ∧ ∀ i, i < L.length → Cs w b o L i
theorem Cs.below {w w' : World} {b o B : Nat} {L : Qs} {i : Nat} (h : Cs w b o L i) (hb : Below B w w') (hB : b < B) : Cs w' b o L i := by
  obtain ⟨h0, h1, h2, h3⟩ := h
  exact ⟨(hb.cell (p := ⟨b, o + i * 4, none⟩) hB).trans h0, (hb.cell (p := ⟨b, o + i * 4 + 1, none⟩) hB).trans h1, (hb.cell (p := ⟨b, o + i * 4 + 2, none⟩) hB).trans h2, (hb.cell (p := ⟨b, o + i * 4 + 3, none⟩) hB).trans h3⟩
theorem Reads.below {w w' : World} {v : Value} {L : Qs} {B : Nat} (h : Reads w v L) (hb : Below B w w') (hB : w.heap.size ≤ B) : Reads w' v L := by
  rcases h with h | ⟨b, o, cap, h1, h2, h3, h4, h5⟩
  · exact Or.inl h
  · exact Or.inr ⟨b, o, cap, h1, h2, h3, Nat.lt_of_lt_of_le h4 hb.size, fun i hi => (h5 i hi).below hb (by omega)⟩
theorem Reads.on {w w' : World} {v : Value} {L : Qs} (h : Reads w v L) (hb : Below w.heap.size w w') : Reads w' v L := h.below hb (Nat.le_refl _)
theorem Reads.form {w : World} {v : Value} {L : Qs} (h : Reads w v L) : ∃ a cap, v = .slice a L.length cap := by
  rcases h with ⟨rfl, a, cap, rfl⟩ | ⟨b, o, cap, rfl, _⟩
  · exact ⟨_, _, rfl⟩
  · exact ⟨_, _, rfl⟩
/-- the cells of queues -/
def qc (L : Qs) : List Value := L.flatMap (fun q => [.int .i64 q.1, nil, .int .i64 q.2.1, .int .i64 q.2.2])
theorem qc_len (L : Qs) : (qc L).length = L.length * 4 := by
  unfold qc
  induction L with
  | nil => rfl
  | cons a L ih => simp [ih]; omega
theorem qc_snoc (L : Qs) (a b c : Int) : qc (L ++ [(a, b, c)]) = qc L ++ [.int .i64 a, nil, .int .i64 b, .int .i64 c] := by simp [qc]
theorem qc_at : ∀ (L : Qs) (i : Nat), i < L.length → (qc L)[i * 4]? = some (.int .i64 (q0 L i)) ∧ (qc L)[i * 4 + 1]? = some nil ∧ (qc L)[i * 4 + 2]? = some (.int .i64 (q1 L i)) ∧ (qc L)[i * 4 + 3]? = some (.int .i64 (q2 L i))
  | [], i, h => absurd h (by simp)
  | a :: L, 0, _ => ⟨rfl, rfl, rfl, rfl⟩
  | a :: L, i + 1, h => by
    have := qc_at L i (by simpa using h)
    have e : qc (a :: L) = [.int .i64 a.1, nil, .int .i64 a.2.1, .int .i64 a.2.2] ++ qc L := rfl
    have k : ∀ j, (qc (a :: L))[j + 4]? = (qc L)[j]? := fun j => by rw [e]; simp
    rw [show (i + 1) * 4 = i * 4 + 4 by omega, show i * 4 + 4 + 1 = i * 4 + 1 + 4 by omega, show i * 4 + 4 + 2 = i * 4 + 2 + 4 by omega, show i * 4 + 4 + 3 = i * 4 + 3 + 4 by omega, k, k, k, k]
    exact this
def Row (w : World) (base : Nat) (v : Value) (L : Qs) : Prop := w.ownsRow base 45 4 v L.length (qc L)
theorem Row.reads {w : World} {base : Nat} {v : Value} {L : Qs} (h : Row w base v L) : Reads w v L := by
  rcases Rt.row_cases h with ⟨h0, h1⟩ | ⟨g, c, h1, h2, h3, h4, h5⟩
  · subst h1
    exact .inl ⟨List.eq_nil_of_length_eq_zero h0, none, 0, rfl⟩
  · subst h1
    refine .inr ⟨g, 0, c, rfl, h4, h5, h3, fun i hi => ?_⟩
    have hh : w.ownsRow base 45 4 (.slice (some ⟨g, 0, none⟩) L.length c) L.length (qc L) := h
    obtain ⟨e0, e1, e2, e3⟩ := qc_at L i hi
    unfold Cs
    rw [hh.cellAt (0 + i * 4) (by omega), hh.cellAt (0 + i * 4 + 1) (by omega), hh.cellAt (0 + i * 4 + 2) (by omega), hh.cellAt (0 + i * 4 + 3) (by omega)]
    rw [Nat.zero_add]
    exact ⟨e0, e1, e2, e3⟩
theorem Row.on {w w' : World} {base : Nat} {v : Value} {L : Qs} (h : Row w base v L) (hb : Below w.heap.size w w') : Row w' base v L := Rt.row_below h hb
theorem row_none (w : World) (base : Nat) : Row w base nil [] := ⟨rfl, Or.inl ⟨rfl, rfl⟩⟩
set_option maxHeartbeats 1000000 in
theorem eq1_any (a b c : Int) (w : World) : Calls Try.prog 37 #[.agg #[.int .i64 a, nil, .int .i64 b, .int .i64 c], .agg #[.int .i64 a, nil, .int .i64 b, .int .i64 c]] w fun e w' => e = .returned (.bool true) ∧ Below w.heap.size w w' := by
  have C : Hid (∀ w, Calls Try.prog 45 #[.slice none 0 0, .slice none 0 0] w fun e w' => e = .returned (.bool true) ∧ w' = w) := Rt.eqI_nil
  have B0 : Hid (Below w.heap.size w ((w.alloc (.cells #[.int .i64 a, nil, .int .i64 b, .int .i64 c] 45)).alloc (.cells #[.int .i64 a, nil, .int .i64 b, .int .i64 c] 45))) := ((Below.refl _ _).alloc (Nat.le_refl _) _).alloc (by simp) _
  go_enter Try.func37, Try.ntmps37
  go_wp2_with (go_at_call 45; refine (C.out _).mono ?_; rintro e w1 ⟨rfl, hw1⟩; subst hw1)
  go_ret
  exact ⟨rfl, B0.out⟩
set_option maxHeartbeats 1000000 in
theorem eq_zero (w : World) (a1 a2 : Option Addr) (d1 d2 : Nat) : Calls Try.prog 21 #[.slice a1 0 d1, .slice a2 0 d2] w fun e w' => e = .returned (.bool true) ∧ Below w.heap.size w w' := by
  go_enter Try.func21, Try.ntmps21
  go_wp2
  go_loop [5] (fun i => i = .int .i64 0) (fun _ => 0)
  case atStart => rfl
  case round =>
    subst hrel
    go_wp2
    go_ret
    exact ⟨rfl, Below.refl _ _⟩
set_option maxHeartbeats 2000000 in
theorem eq_same (w : World) (v1 v2 : Value) (L : Qs) (h1 : Reads w v1 L) (h2 : Reads w v2 L) :
    Calls Try.prog 21 #[v1, v2] w fun e w' => e = .returned (.bool true) ∧ Below w.heap.size w w' := by
  by_cases hL : L = []
  · subst hL
    obtain ⟨a, cap, rfl⟩ := h1.form
    obtain ⟨a2, cap2, rfl⟩ := h2.form
    exact eq_zero w _ _ _ _
  · rcases h1 with ⟨e, _⟩ | ⟨b1, o1, d1, rfl, x1, x2, x3, x4⟩
    · exact absurd e hL
    rcases h2 with ⟨e, _⟩ | ⟨b2, o2, d2, rfl, y1, y2, y3, y4⟩
    · exact absurd e hL
    have K1 : Hid (b1 < w.heap.size ∧ ∀ i, i < L.length → Cs w b1 o1 L i) := ⟨x3, x4⟩
    have K2 : Hid (b2 < w.heap.size ∧ ∀ i, i < L.length → Cs w b2 o2 L i) := ⟨y3, y4⟩
    obtain ⟨n, hn⟩ : ∃ n, n = L.length := ⟨_, rfl⟩
    rw [← hn] at x1 y1 ⊢
    have HN : Hid (n = L.length) := hn
    unfold maxLen at x2 y2
    clear x4 y4 hn hL
    go_enter Try.func21, Try.ntmps21
    go_wp2
    go_loopw [5] (fun i wr => ∃ k : Nat, k ≤ n ∧ i = .int .i64 k ∧ Hid (Below w.heap.size w wr)) (fun i _ => n - (intOf i).toNat)
    case atStart => exact ⟨0, Nat.zero_le _, rfl, Below.refl _ _⟩
    case round =>
      obtain ⟨k, hk, rfl, BR⟩ := hrel
      by_cases hlt : k < n
      · have i0 : (0 : Int) ≤ (k : Int) := by omega
        have i1 : (k : Int) < (n : Int) := by omega
        obtain ⟨p0, p1, p2, p3⟩ : Cs wr b1 o1 L k := (K1.out.2 k (by rw [← HN.out]; exact hlt)).below BR.out K1.out.1
        obtain ⟨r0, r1, r2, r3⟩ : Cs wr b2 o2 L k := (K2.out.2 k (by rw [← HN.out]; exact hlt)).below BR.out K2.out.1
        generalize q0 L k = u0 at *
        generalize q1 L k = u1 at *
        generalize q2 L k = u2 at *
        go_wp2_with fail
        go_region_held3 (fun w' => w'.cell? ⟨b1, o1 + k * 4, none⟩ = some (.int .i64 u0) ∧ w'.cell? ⟨b1, o1 + k * 4 + 1, none⟩ = some nil ∧ w'.cell? ⟨b1, o1 + k * 4 + 2, none⟩ = some (.int .i64 u1) ∧ w'.cell? ⟨b1, o1 + k * 4 + 3, none⟩ = some (.int .i64 u2) ∧ w'.cell? ⟨b2, o2 + k * 4, none⟩ = some (.int .i64 u0) ∧ w'.cell? ⟨b2, o2 + k * 4 + 1, none⟩ = some nil ∧ w'.cell? ⟨b2, o2 + k * 4 + 2, none⟩ = some (.int .i64 u1) ∧ w'.cell? ⟨b2, o2 + k * 4 + 3, none⟩ = some (.int .i64 u2)) (go_keep)
          (first
          | (go_at_call 37; refine (eq1_any _ _ _ _).mono ?_; rintro e w1 ⟨rfl, hb1⟩; have B1 := BR.out.drew.trans (hb1.mono BR.out.size); have k1 := Nat.lt_of_lt_of_le K1.out.1 BR.out.size; have k2 := Nat.lt_of_lt_of_le K2.out.1 BR.out.size; have s0 := (hb1.cell (p := ⟨b1, o1 + k * 4, none⟩) k1).trans p0; have s1 := (hb1.cell (p := ⟨b1, o1 + k * 4 + 1, none⟩) k1).trans p1; have s2 := (hb1.cell (p := ⟨b1, o1 + k * 4 + 2, none⟩) k1).trans p2; have s3 := (hb1.cell (p := ⟨b1, o1 + k * 4 + 3, none⟩) k1).trans p3; have t0 := (hb1.cell (p := ⟨b2, o2 + k * 4, none⟩) k2).trans r0; have t1 := (hb1.cell (p := ⟨b2, o2 + k * 4 + 1, none⟩) k2).trans r1; have t2 := (hb1.cell (p := ⟨b2, o2 + k * 4 + 2, none⟩) k2).trans r2; have t3 := (hb1.cell (p := ⟨b2, o2 + k * 4 + 3, none⟩) k2).trans r3))
        go_wp2_with fail
        go_roundw
        case rel => exact ⟨k + 1, by omega, by go_num, B1⟩
        case measure => simp [intOf]; omega
      · go_wp2
        go_ret
        exact ⟨rfl, BR.out⟩
end Go.Proofs.Ytmmhmbbfeecloaa.Qu
