/- What the significant places are like: they rise, between two that follow each other no level departs by more than tol; a greater tol chooses no others. -/
import Derived.Test.YtjnjpbbpphklhaaSgD
namespace Go.Proofs.Ytjnjpbbpphklhaa.Flt
open Go.ChangeShapes Go.WideShapes Go.ChangeAt Go.RowKit

theorem sc_max (L : Lv) (i j c : Nat) (k : Nat) (h1 : i < k) (h2 : k ≤ i + c) (hn : nan (dp L i j k) = false) : key (dp L i j k) ≤ key (scI L i j c).2 := by
  induction c with
  | zero => omega
  | succ c ih =>
    obtain ⟨n1, _, _⟩ := sc_same L 0 i j (by decide +kernel) (by decide +kernel) c
    have eI : scI L i j (c + 1) = if gt (dp L i j (i + 1 + c)) (scI L i j c).2 then (i + 1 + c, dp L i j (i + 1 + c)) else scI L i j c := rfl
    rw [eI]
    by_cases e : k = i + 1 + c
    · subst e
      cases g : gt (dp L i j (i + 1 + c)) (scI L i j c).2
      · rw [if_neg (by simp)]
        by_cases x : key (scI L i j c).2 < key (dp L i j (i + 1 + c))
        · have := (gt_key _ _).2 ⟨hn, n1, x⟩
          rw [g] at this; cases this
        · omega
      · rw [if_pos rfl]
        exact Int.le_refl _
    · have := ih (by omega)
      cases g : gt (dp L i j (i + 1 + c)) (scI L i j c).2
      · rw [if_neg (by simp)]; exact this
      · rw [if_pos rfl]
        have := (gt_key _ _).1 g
        show _ ≤ key (dp L i j (i + 1 + c))
        omega
/-- Two places that may follow each other. -/
def Nx (L : Lv) (tol : Nat) (a b : Int) : Prop := 0 ≤ a ∧ a < b ∧ ∀ k : Nat, a < k → (k : Int) < b → gt (dp L a.toNat b.toNat k) tol = false
def Ch (R : Int → Int → Prop) : Int → List Int → Prop
  | _, [] => True
  | a, b :: l => R a b ∧ Ch R b l
theorem Ch.join {R : Int → Int → Prop} {p : Int} {B : List Int} (hB : Ch R p B) : ∀ {A : List Int} {a : Int}, Ch R a (A ++ [p]) → Ch R a (A ++ [p] ++ B) := by
  intro A
  induction A with
  | nil => intro a h; exact ⟨h.1, hB⟩
  | cons x A ih => intro a h; exact ⟨h.1, ih h.2⟩
theorem sg2_chain (L : Lv) (tol : Nat) (ht : nan tol = false) (h0 : 0 ≤ key tol) : ∀ f i j : Nat, j - i ≤ f → i < j → Ch (Nx L tol) i (sg2 L tol f i j ++ [(j : Int)]) := by
  intro f
  induction f with
  | zero => intro i j h1 h2; omega
  | succ f ih =>
    intro i j hf hij
    have e : sg2 L tol (f + 1) i j = if gt (scI L i j (j - i - 1)).2 tol then sg2 L tol f i (scI L i j (j - i - 1)).1 ++ [((scI L i j (j - i - 1)).1 : Int)] ++ sg2 L tol f (scI L i j (j - i - 1)).1 j else [] := rfl
    rw [e]
    cases g : gt (scI L i j (j - i - 1)).2 tol
    · rw [if_neg (by simp)]
      refine ⟨⟨by omega, by omega, fun k h1 h2 => ?_⟩, trivial⟩
      cases x : gt (dp L (i : Int).toNat (j : Int).toNat k) tol
      · rfl
      · rw [Int.toNat_natCast, Int.toNat_natCast] at x
        have a := (gt_key _ _).1 x
        have m := sc_max L i j (j - i - 1) k (by omega) (by omega) a.1
        have n1 := (sc_same L tol i j ht h0 (j - i - 1)).1
        have := (gt_key (scI L i j (j - i - 1)).2 tol).2 ⟨n1, ht, by omega⟩
        rw [g] at this; cases this
    · rw [if_pos rfl]
      rcases sc_place L i j (j - i - 1) with ⟨q1, q2⟩ | ⟨q1, q2⟩
      · have := (gt_key _ _).1 g
        rw [q2] at this
        have k0 : key 0 = 0 := by decide +kernel
        omega
      · have i1 := ih i (scI L i j (j - i - 1)).1 (by omega) q1
        have i2 := ih (scI L i j (j - i - 1)).1 j (by omega) (by omega)
        rw [List.append_assoc]
        exact Ch.join i2 i1
theorem Ch.at {R : Int → Int → Prop} : ∀ {l : List Int} {a : Int}, Ch R a l → ∀ q, q < l.length → R ((a :: l).getD q 0) ((a :: l).getD (q + 1) 0) := by
  intro l
  induction l with
  | nil => intro a _ q h; simp at h
  | cons b l ih =>
    intro a h q hq
    cases q with
    | zero => exact h.1
    | succ q => exact ih h.2 q (by simpa using hq)
/-- A greater tol chooses no others. -/
theorem sg2_fewer (L : Lv) (t1 t2 : Nat) (n1 : nan t1 = false) (h : key t1 ≤ key t2) : ∀ f i j : Nat, ∀ z ∈ sg2 L t2 f i j, z ∈ sg2 L t1 f i j := by
  intro f
  induction f with
  | zero => intro i j z hz; exact hz
  | succ f ih =>
    intro i j z hz
    have e : ∀ t, sg2 L t (f + 1) i j = if gt (scI L i j (j - i - 1)).2 t then sg2 L t f i (scI L i j (j - i - 1)).1 ++ [((scI L i j (j - i - 1)).1 : Int)] ++ sg2 L t f (scI L i j (j - i - 1)).1 j else [] := fun _ => rfl
    rw [e] at hz ⊢
    cases g : gt (scI L i j (j - i - 1)).2 t2
    · rw [g] at hz; simp at hz
    · rw [g, if_pos rfl] at hz
      have a := (gt_key _ _).1 g
      have g1 : gt (scI L i j (j - i - 1)).2 t1 = true := (gt_key _ _).2 ⟨a.1, n1, by omega⟩
      rw [g1, if_pos rfl]
      simp only [List.mem_append] at hz ⊢
      rcases hz with (hz | hz) | hz
      · exact .inl (.inl (ih _ _ z hz))
      · exact .inl (.inr hz)
      · exact .inr (ih _ _ z hz)
end Go.Proofs.Ytjnjpbbpphklhaa.Flt
