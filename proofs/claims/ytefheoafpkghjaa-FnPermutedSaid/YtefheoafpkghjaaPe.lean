/- All ways to choose so many of a list: plainly; the program's and the model's counting. -/
import Derived.Test.YtefheoafpkghjaaAlA
import Derived.Deep.DeepCutAuto
namespace Go.Proofs.Ytefheoafpkghjaa.Pe
open Go.ChangeShapes Go.WideShapes Go.ChangeAt Go.RowKit
open Go.Proofs.Ytefheoafpkghjaa.Lists Go.Proofs.Ytefheoafpkghjaa.Al

def wy : List Int → Nat → Int → Int × Int
  | _, 0, m => (if m ≤ 0 then 1 else 0, 1)
  | [], _ + 1, _ => (0, 0)
  | z :: t, c + 1, m => if t.length < c then (0, 0) else ((wy t c (m - z)).1 + (wy t (c + 1) m).1, (wy t c (m - z)).2 + (wy t (c + 1) m).2)
theorem wy_zero (L : List Int) (m : Int) : wy L 0 m = (if m ≤ 0 then 1 else 0, 1) := by cases L <;> rfl
theorem wy_few {L : List Int} {c : Nat} (m : Int) (h : L.length < c + 1) : wy L (c + 1) m = (0, 0) := by
  cases L with
  | nil => rfl
  | cons z t =>
    unfold wy
    rw [if_pos (by simpa using h)]
theorem wy_step {z : Int} {t : List Int} {c : Nat} (m : Int) (h : ¬ t.length < c) : wy (z :: t) (c + 1) m = ((wy t c (m - z)).1 + (wy t (c + 1) m).1, (wy t c (m - z)).2 + (wy t (c + 1) m).2) := by
  show (if t.length < c then _ else _) = _
  rw [if_neg h]
theorem wy_bd (L : List Int) : ∀ c m, (0 ≤ (wy L c m).1 ∧ (wy L c m).1 ≤ (2 : Int) ^ L.length) ∧ (0 ≤ (wy L c m).2 ∧ (wy L c m).2 ≤ (2 : Int) ^ L.length) := by
  induction L with
  | nil =>
    intro c m
    cases c with
    | zero => rw [wy_zero]; refine ⟨?_, by simp⟩; show 0 ≤ (if m ≤ 0 then (1 : Int) else 0) ∧ (if m ≤ 0 then (1 : Int) else 0) ≤ _; split <;> simp
    | succ c => exact ⟨⟨Int.le_refl _, by simp [wy]⟩, ⟨Int.le_refl _, by simp [wy]⟩⟩
  | cons z t ih =>
    intro c m
    have p : (1 : Int) ≤ 2 ^ t.length := Int.pow_pos (by omega)
    have e : (2 : Int) ^ (z :: t).length = 2 ^ t.length + 2 ^ t.length := by rw [List.length_cons, Int.pow_succ]; omega
    rw [e]
    cases c with
    | zero =>
      rw [wy_zero]
      show (0 ≤ (if m ≤ 0 then (1 : Int) else 0) ∧ (if m ≤ 0 then (1 : Int) else 0) ≤ _) ∧ 0 ≤ (1 : Int) ∧ (1 : Int) ≤ _
      split <;> omega
    | succ c =>
      by_cases h : t.length < c
      · rw [wy_few m (by simpa using h)]
        show (0 ≤ (0 : Int) ∧ (0 : Int) ≤ _) ∧ 0 ≤ (0 : Int) ∧ (0 : Int) ≤ _
        omega
      · rw [wy_step m h]
        have a := ih c (m - z)
        have b := ih (c + 1) m
        show (0 ≤ (wy t c (m - z)).1 + (wy t (c + 1) m).1 ∧ _) ∧ 0 ≤ (wy t c (m - z)).2 + (wy t (c + 1) m).2 ∧ _
        omega
theorem pow16 (n : Nat) (h : n ≤ 16) : (2 : Int) ^ n ≤ 65536 := by
  have := Nat.pow_le_pow_right (n := 2) (by omega) h
  have e : ((2 ^ n : Nat) : Int) = (2 : Int) ^ n := by simp
  rw [← e]
  have e2 : (2 : Nat) ^ 16 = 65536 := by decide
  omega
theorem wy_bd16 (L : List Int) (h : L.length ≤ 16) (c : Nat) (m : Int) : (0 ≤ (wy L c m).1 ∧ (wy L c m).1 ≤ 65536) ∧ (0 ≤ (wy L c m).2 ∧ (wy L c m).2 ≤ 65536) := by
  have a := wy_bd L c m
  have b := pow16 L.length h
  omega
def inB (L : List Int) : Prop := ∀ z ∈ L, -1000000 ≤ z ∧ z ≤ 1000000
theorem drop_cons (L : List Int) (i : Nat) (h : i < L.length) : L.drop i = L.getD i 0 :: L.drop (i + 1) := by
  rw [List.drop_eq_getElem_cons h, List.getD_eq_getElem?_getD, List.getElem?_eq_getElem h]
  rfl

set_option maxHeartbeats 1000000 in
theorem ways_any (L : List Int) (v : Value) (w : World) (hL : Lists.Reads w v L) (hl : L.length ≤ 16) (hB : inB L) : ∀ (f i c : Nat) (m : Int), L.length - i ≤ f → i ≤ L.length → c ≤ 8 → (-40000000 + 1000000 * ((L.length : Int) - i) ≤ m ∧ m ≤ 40000000 - 1000000 * ((L.length : Int) - i)) →
    Calls Try.prog 12 #[v, .int .i64 (i : Int), .int .i64 (c : Int), .int .i64 m] w fun e w' => e = .returned (.tuple #[.int .i64 (wy (L.drop i) c m).1, .int .i64 (wy (L.drop i) c m).2]) ∧ w' = w := by
  obtain ⟨b, o, hcell, hvv⟩ := reads_at hL
  obtain ⟨a, cap, rfl⟩ := hL.form
  have HA : Hid (0 < L.length → a = some ⟨b, o, none⟩) := fun hi => by
    obtain ⟨h1, cc, h2⟩ := hvv hi
    simp at h2
    exact h2.1
  have HC : Hid (∀ i, i < L.length → w.cell? ⟨b, o + i, none⟩ = some (.int .i64 (L.getD i 0))) := hcell
  clear hL hcell hvv
  intro f
  induction f with
  | zero =>
    intro i c m hf hi hc hm
    have hd : L.drop i = [] := List.drop_eq_nil_of_le (by omega)
    rw [hd]
    cases c with
    | zero =>
      rw [wy_zero]
      by_cases g : m ≤ 0
      · rw [if_pos g]
        go_enter Try.func12, Try.ntmps12
        go_wp2_with fail
        exact bodyPost_ret (v := .tuple #[.int .i64 1, .int .i64 1]) (by simp [results, Try.results12, go_sem]) rfl ⟨rfl, rfl⟩
      · rw [if_neg g]
        go_enter Try.func12, Try.ntmps12
        go_wp2_with fail
        exact bodyPost_ret (v := .tuple #[.int .i64 0, .int .i64 1]) (by simp [results, Try.results12, go_sem]) rfl ⟨rfl, rfl⟩
    | succ c =>
      have g1 : ¬ ((c + 1 : Nat) : Int) = 0 := by omega
      have g2 : (((c + 1 : Nat) : Int) == 0) = false := by simp; omega
      have g3 : (L.length : Int) - (i : Int) < ((c + 1 : Nat) : Int) := by omega
      generalize ((c + 1 : Nat) : Int) = C at *
      generalize L.length = n at *
      go_enter Try.func12, Try.ntmps12
      go_wp2_with fail
      exact bodyPost_ret (v := .tuple #[.int .i64 0, .int .i64 0]) (by simp [results, Try.results12, go_sem]) rfl ⟨rfl, rfl⟩
  | succ f ih =>
    intro i c m hf hi hc hm
    cases c with
    | zero =>
      rw [wy_zero]
      by_cases g : m ≤ 0
      · rw [if_pos g]
        go_enter Try.func12, Try.ntmps12
        go_wp2_with fail
        exact bodyPost_ret (v := .tuple #[.int .i64 1, .int .i64 1]) (by simp [results, Try.results12, go_sem]) rfl ⟨rfl, rfl⟩
      · rw [if_neg g]
        go_enter Try.func12, Try.ntmps12
        go_wp2_with fail
        exact bodyPost_ret (v := .tuple #[.int .i64 0, .int .i64 1]) (by simp [results, Try.results12, go_sem]) rfl ⟨rfl, rfl⟩
    | succ c =>
      have g1 : ¬ ((c + 1 : Nat) : Int) = 0 := by omega
      have g2 : (((c + 1 : Nat) : Int) == 0) = false := by simp; omega
      by_cases g : L.length - i < c + 1
      · have g3 : (L.length : Int) - (i : Int) < ((c + 1 : Nat) : Int) := by omega
        rw [wy_few m (by rw [List.length_drop]; exact g)]
        generalize ((c + 1 : Nat) : Int) = C at *
        generalize L.length = n at *
        go_enter Try.func12, Try.ntmps12
        go_wp2_with fail
        exact bodyPost_ret (v := .tuple #[.int .i64 0, .int .i64 0]) (by simp [results, Try.results12, go_sem]) rfl ⟨rfl, rfl⟩
      · have hil : i < L.length := by omega
        have hx := HA.out (by omega)
        subst hx
        have q := HC.out i hil
        have zb : -1000000 ≤ L.getD i 0 ∧ L.getD i 0 ≤ 1000000 := hB _ (by simp [List.getD_eq_getElem?_getD, hil])
        rw [drop_cons L i hil, wy_step m (by rw [List.length_drop]; omega)]
        have C1 : Hid (Calls Try.prog 12 #[.slice (some ⟨b, o, none⟩) L.length cap, .int .i64 ((i : Int) + 1), .int .i64 (c : Int), .int .i64 (m - L.getD i 0)] w fun e w' => e = .returned (.tuple #[.int .i64 (wy (L.drop (i + 1)) c (m - L.getD i 0)).1, .int .i64 (wy (L.drop (i + 1)) c (m - L.getD i 0)).2]) ∧ w' = w) := (by
          have := ih (i + 1) c (m - L.getD i 0) (by omega) (by omega) (by omega) (by omega)
          rw [Int.natCast_add] at this
          exact this)
        have C2 : Hid (Calls Try.prog 12 #[.slice (some ⟨b, o, none⟩) L.length cap, .int .i64 ((i : Int) + 1), .int .i64 ((c : Int) + 1), .int .i64 m] w fun e w' => e = .returned (.tuple #[.int .i64 (wy (L.drop (i + 1)) (c + 1) m).1, .int .i64 (wy (L.drop (i + 1)) (c + 1) m).2]) ∧ w' = w) := (by
          have := ih (i + 1) (c + 1) m (by omega) (by omega) (by omega) (by omega)
          rw [Int.natCast_add, Int.natCast_add] at this
          exact this)
        have ec : ((c + 1 : Nat) : Int) = (c : Int) + 1 := by omega
        have g3 : ¬ (L.length : Int) - (i : Int) < (c : Int) + 1 := by omega
        have j1 : (0 : Int) ≤ (i : Int) := by omega
        have j2 : (i : Int) < (L.length : Int) := by omega
        have d1 := wy_bd16 (L.drop (i + 1)) (by rw [List.length_drop]; omega) c (m - L.getD i 0)
        have d2 := wy_bd16 (L.drop (i + 1)) (by rw [List.length_drop]; omega) (c + 1) m
        rw [ec] at g1 g2 ⊢
        clear ec
        generalize (wy (L.drop (i + 1)) c (m - L.getD i 0)).1 = x0 at *
        generalize (wy (L.drop (i + 1)) c (m - L.getD i 0)).2 = x1 at *
        generalize (wy (L.drop (i + 1)) (c + 1) m).1 = y0 at *
        generalize (wy (L.drop (i + 1)) (c + 1) m).2 = y1 at *
        generalize L.getD i 0 = z at *
        generalize L.length = n at *
        clear ih
        go_enter Try.func12, Try.ntmps12
        go_wp2_with fail
        refine C1.out.mono ?_
        rintro e w1 ⟨rfl, hw⟩
        have hw' := hw.symm
        subst hw'
        go_wp2_with fail
        refine C2.out.mono ?_
        rintro e w1 ⟨rfl, hw⟩
        have hw' := hw.symm
        subst hw'
        go_wp2_with fail
        exact bodyPost_ret (v := .tuple #[.int .i64 (x0 + y0), .int .i64 (x1 + y1)]) (by simp [results, Try.results12, go_sem]) rfl ⟨rfl, rfl⟩
end Go.Proofs.Ytefheoafpkghjaa.Pe
