/- Lists of levels that are read. -/
import Derived.Test.YtgjimjgdbnicoaaBetL
import Derived.OwnWalk
import Derived.WalkSmall
import Derived.Laws.OwnMore
import Derived.Deep.QuietTactic
import Derived.BigQuiet
namespace Go.Proofs.Ytgjimjgdbnicoaa.Flt
open Go.ChangeShapes Go.WideShapes Go.ChangeAt Go.RowKit
attribute [local go_sem] run_store_float

abbrev Lv := List (Int × Nat)
def pOf (L : Lv) (i : Nat) : Int := (L.getD i (0, 0)).1
def tOf (L : Lv) (i : Nat) : Nat := (L.getD i (0, 0)).2
def Reads (w : World) (v : Value) (L : Lv) : Prop :=
  (L = [] ∧ ∃ a cap, v = .slice a 0 cap) ∨ ∃ b o cap, v = .slice (some ⟨b, o, none⟩) L.length cap ∧ L.length ≤ cap ∧ cap ≤ maxLen ∧ b < w.heap.size ∧ ∀ i, i < L.length → w.cell? ⟨b, o + i * 2, none⟩ = some (.int .i64 (pOf L i)) ∧ w.cell? ⟨b, o + i * 2 + 1, none⟩ = some (.float .f64 (tOf L i))
theorem Reads.below {w w' : World} {v : Value} {L : Lv} {B : Nat} (h : Reads w v L) (hb : Below B w w') (hB : w.heap.size ≤ B) : Reads w' v L := by
  rcases h with h | ⟨b, o, cap, h1, h2, h3, h4, h5⟩
  · exact Or.inl h
  · exact Or.inr ⟨b, o, cap, h1, h2, h3, Nat.lt_of_lt_of_le h4 hb.size, fun i hi => ⟨(hb.cell (p := ⟨b, o + i * 2, none⟩) (by show b < B; omega)).trans (h5 i hi).1, (hb.cell (p := ⟨b, o + i * 2 + 1, none⟩) (by show b < B; omega)).trans (h5 i hi).2⟩⟩
theorem Reads.on {w w' : World} {v : Value} {L : Lv} (h : Reads w v L) (hb : Below w.heap.size w w') : Reads w' v L := h.below hb (Nat.le_refl _)
theorem Reads.form {w : World} {v : Value} {L : Lv} (h : Reads w v L) : ∃ a cap, v = .slice a L.length cap := by
  rcases h with ⟨rfl, a, cap, rfl⟩ | ⟨b, o, cap, rfl, _⟩
  · exact ⟨_, _, rfl⟩
  · exact ⟨_, _, rfl⟩

set_option maxHeartbeats 1000000 in
theorem eqLevel_any (a c : Int) (s t : Nat) (w : World) (h1 : a = c) (h2 : cn s = cn t) : Calls Try.prog 21 #[lv a s, lv c t] w fun e w' => e = .returned (.bool true) ∧ Below w.heap.size w w' := by
  subst h1
  have H2 : Hid (cn s = cn t) := h2
  clear h2
  go_enter Try.func21, Try.ntmps21
  go_wp2_with fail
  refine (sf_cn _ _ _ H2.out).mono ?_
  rintro e w1 ⟨rfl, rfl⟩
  go_wp2_with fail
  go_ret
  exact ⟨rfl, ((Below.refl _ _).alloc (Nat.le_refl _) _).alloc (by simp) _⟩

set_option maxHeartbeats 1000000 in
theorem eq_same (w : World) (v1 v2 : Value) (L : Lv) (h1 : Reads w v1 L) (h2 : Reads w v2 L) :
    Calls Try.prog 9 #[v1, v2] w fun e w' => e = .returned (.bool true) ∧ Below w.heap.size w w' := by
  by_cases hL : L = []
  · subst hL
    obtain ⟨a, cap, rfl⟩ := h1.form
    obtain ⟨a2, cap2, rfl⟩ := h2.form
    go_enter Try.func9, Try.ntmps9
    go_wp2
    go_loop [5] (fun i => i = .int .i64 0) (fun _ => 0)
    case atStart => rfl
    case round =>
      subst hrel
      go_wp2
      go_ret
      exact ⟨rfl, Below.refl _ _⟩
  · rcases h1 with ⟨e, _⟩ | ⟨b1, o1, c1, rfl, x1, x2, x3, x4⟩
    · exact absurd e hL
    rcases h2 with ⟨e, _⟩ | ⟨b2, o2, c2, rfl, y1, y2, y3, y4⟩
    · exact absurd e hL
    have K1 : Hid (b1 < w.heap.size ∧ ∀ i, i < L.length → w.cell? ⟨b1, o1 + i * 2, none⟩ = some (.int .i64 (pOf L i)) ∧ w.cell? ⟨b1, o1 + i * 2 + 1, none⟩ = some (.float .f64 (tOf L i))) := ⟨x3, x4⟩
    have K2 : Hid (b2 < w.heap.size ∧ ∀ i, i < L.length → w.cell? ⟨b2, o2 + i * 2, none⟩ = some (.int .i64 (pOf L i)) ∧ w.cell? ⟨b2, o2 + i * 2 + 1, none⟩ = some (.float .f64 (tOf L i))) := ⟨y3, y4⟩
    obtain ⟨n, hn⟩ : ∃ n, n = L.length := ⟨_, rfl⟩
    rw [← hn] at x1 y1 ⊢
    have HN : Hid (n = L.length) := hn
    unfold maxLen at x2 y2
    clear x4 y4 hn hL
    go_enter Try.func9, Try.ntmps9
    go_wp2
    go_loopw [5] (fun i wr => ∃ k : Nat, k ≤ n ∧ i = .int .i64 k ∧ Hid (Below w.heap.size w wr)) (fun i _ => n - (intOf i).toNat)
    case atStart => exact ⟨0, Nat.zero_le _, rfl, Below.refl _ _⟩
    case round =>
      obtain ⟨k, hk, rfl, BR⟩ := hrel
      by_cases hlt : k < n
      · have q1 : wr.cell? ⟨b1, o1 + k * 2, none⟩ = some (.int .i64 (pOf L k)) := (BR.out.cell (p := ⟨b1, o1 + k * 2, none⟩) K1.out.1).trans (K1.out.2 k (by rw [← HN.out]; exact hlt)).1
        have q2 : wr.cell? ⟨b1, o1 + k * 2 + 1, none⟩ = some (.float .f64 (tOf L k)) := (BR.out.cell (p := ⟨b1, o1 + k * 2 + 1, none⟩) K1.out.1).trans (K1.out.2 k (by rw [← HN.out]; exact hlt)).2
        have q3 : wr.cell? ⟨b2, o2 + k * 2, none⟩ = some (.int .i64 (pOf L k)) := (BR.out.cell (p := ⟨b2, o2 + k * 2, none⟩) K2.out.1).trans (K2.out.2 k (by rw [← HN.out]; exact hlt)).1
        have q4 : wr.cell? ⟨b2, o2 + k * 2 + 1, none⟩ = some (.float .f64 (tOf L k)) := (BR.out.cell (p := ⟨b2, o2 + k * 2 + 1, none⟩) K2.out.1).trans (K2.out.2 k (by rw [← HN.out]; exact hlt)).2
        have i0 : (0 : Int) ≤ (k : Int) := by omega
        have i1 : (k : Int) < (n : Int) := by omega
        generalize pOf L k = z at *
        generalize tOf L k = u at *
        go_wp2_with fail
        go_region_held3 (fun w' => w'.cell? ⟨b1, o1 + k * 2, none⟩ = some (.int .i64 z) ∧ w'.cell? ⟨b1, o1 + k * 2 + 1, none⟩ = some (.float .f64 u) ∧ w'.cell? ⟨b2, o2 + k * 2, none⟩ = some (.int .i64 z) ∧ w'.cell? ⟨b2, o2 + k * 2 + 1, none⟩ = some (.float .f64 u)) (go_keep)
          (first
          | (go_at_call 21; refine (eqLevel_any _ _ _ _ _ rfl rfl).mono ?_; rintro e w1 ⟨rfl, hb1⟩; have B1 := BR.out.drew.trans (hb1.mono BR.out.size); have k1 := K1.out.1; have k2 := K2.out.1; have r1 := (hb1.cell (p := ⟨b1, o1 + k * 2, none⟩) (Nat.lt_of_lt_of_le k1 BR.out.size)).trans q1; have r2 := (hb1.cell (p := ⟨b1, o1 + k * 2 + 1, none⟩) (Nat.lt_of_lt_of_le k1 BR.out.size)).trans q2; have r3 := (hb1.cell (p := ⟨b2, o2 + k * 2, none⟩) (Nat.lt_of_lt_of_le k2 BR.out.size)).trans q3; have r4 := (hb1.cell (p := ⟨b2, o2 + k * 2 + 1, none⟩) (Nat.lt_of_lt_of_le k2 BR.out.size)).trans q4))
        go_wp2_with fail
        go_roundw
        case rel => exact ⟨k + 1, by omega, by go_num, B1⟩
        case measure => simp [intOf]; omega
      · go_wp2
        go_ret
        exact ⟨rfl, BR.out⟩
end Go.Proofs.Ytgjimjgdbnicoaa.Flt
