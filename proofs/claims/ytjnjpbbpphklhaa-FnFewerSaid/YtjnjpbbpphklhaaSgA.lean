/- How far a level departs, and which departs most, plain. -/
import Derived.Test.YtjnjpbbpphklhaaAscL
namespace Go.Proofs.Ytjnjpbbpphklhaa.Flt
open Go.ChangeShapes Go.WideShapes Go.ChangeAt Go.RowKit

def gt (a b : Nat) : Bool := ord a b == some .gt
theorem gt_key (a b : Nat) : gt a b = true ↔ nan a = false ∧ nan b = false ∧ key b < key a := by
  unfold gt
  by_cases hn : nan a = true ∨ nan b = true
  · have e : ord a b = none := order_nan a b (by unfold nan at hn; simpa using hn)
    rw [e]
    constructor
    · intro h; simp at h
    · rintro ⟨h1, h2, _⟩; rw [h1, h2] at hn; simp at hn
  · have ha : nan a = false := by cases h : nan a <;> simp_all
    have hb : nan b = false := by cases h : nan b <;> simp_all
    have ra : rng a ≤ 9218868437227405312 := by unfold nan at ha; simpa using ha
    have rb : rng b ≤ 9218868437227405312 := by unfold nan at hb; simpa using hb
    rw [ord_key a b ra rb]
    constructor
    · intro h
      refine ⟨ha, hb, ?_⟩
      by_cases c : key b < key a
      · exact c
      · by_cases d : key a = key b
        · rw [c_eq d] at h; simp at h
        · rw [c_lt (by omega)] at h; simp at h
    · rintro ⟨_, _, h⟩; rw [c_gt h]; rfl
/-- Two numbers that compare alike. -/
def Al (a b : Nat) : Prop := nan a = nan b ∧ (nan a = false → key a = key b)
theorem Al.refl (a : Nat) : Al a a := ⟨rfl, fun _ => rfl⟩
theorem gt_al {a b c d : Nat} (h1 : Al a c) (h2 : Al b d) : gt a b = gt c d := by
  rw [Bool.eq_iff_iff, gt_key, gt_key]
  constructor
  · rintro ⟨x, y, z⟩
    exact ⟨by rw [← h1.1]; exact x, by rw [← h2.1]; exact y, by rw [← h1.2 x, ← h2.2 y]; exact z⟩
  · rintro ⟨x, y, z⟩
    have x' : nan a = false := by rw [h1.1]; exact x
    have y' : nan b = false := by rw [h2.1]; exact y
    exact ⟨x', y', by rw [h1.2 x', h2.2 y']; exact z⟩
theorem Al.cn (a : Nat) : Al (cn a) a := by
  cases h : nan a
  · rw [cn_num h]; exact Al.refl a
  · rw [cn_nan h]; exact ⟨by rw [nan_qn, h], fun x => by rw [nan_qn] at x; cases x⟩

/-- The difference of a level's Temp from what the two levels say, and how great it is. -/
def df (L : Lv) (i j k : Nat) : Nat := opF .sub (cn (tOf L k)) (bet (pOf L i) (tOf L i) (pOf L j) (tOf L j) (pOf L k))
def dp (L : Lv) (i j k : Nat) : Nat := if nan (df L i j k) then qn else rng (df L i j k)
theorem rng_rng (x : Nat) : rng (rng x) = rng x := by unfold rng; omega
theorem sgn_rng (x : Nat) : sgn (rng x) = false := by
  unfold sgn rng
  have : x % 9223372036854775808 / 9223372036854775808 = 0 := Nat.div_eq_of_lt (Nat.mod_lt _ (by decide))
  rw [this]; rfl
theorem key_rng (x : Nat) : key (rng x) = (rng x : Int) := by unfold key sg; rw [sgn_rng, rng_rng]; rfl
theorem nan_rng (x : Nat) : nan (rng x) = nan x := by unfold nan; rw [rng_rng]

/-- Which of the levels behind i, so many of them, departs most from 0 on. -/
def scI (L : Lv) (i j : Nat) : Nat → Nat × Nat
  | 0 => (i, 0)
  | c + 1 => if gt (dp L i j (i + 1 + c)) (scI L i j c).2 then (i + 1 + c, dp L i j (i + 1 + c)) else scI L i j c
/-- The same from tol on; -1 where none does. -/
def scS (L : Lv) (tol i j : Nat) : Nat → Int × Nat
  | 0 => (-1, tol)
  | c + 1 => if gt (dp L i j (i + 1 + c)) (scS L tol i j c).2 then (((i + 1 + c : Nat) : Int), dp L i j (i + 1 + c)) else scS L tol i j c
theorem sc_same (L : Lv) (tol i j : Nat) (ht : nan tol = false) (h0 : 0 ≤ key tol) (c : Nat) :
    nan (scI L i j c).2 = false ∧ 0 ≤ key (scI L i j c).2 ∧ (if gt (scI L i j c).2 tol then scS L tol i j c = (((scI L i j c).1 : Int), (scI L i j c).2) else scS L tol i j c = (-1, tol)) := by
  induction c with
  | zero =>
    refine ⟨(by show nan 0 = false; decide +kernel), (by show 0 ≤ key 0; decide +kernel), ?_⟩
    have : gt (scI L i j 0).2 tol = false := by
      cases h : gt (scI L i j 0).2 tol
      · rfl
      · have := (gt_key _ _).1 h
        have k0 : key (scI L i j 0).2 = 0 := by show key 0 = 0; decide +kernel
        omega
    rw [this]; rfl
  | succ c ih =>
    obtain ⟨n1, n2, n3⟩ := ih
    have eI : scI L i j (c + 1) = if gt (dp L i j (i + 1 + c)) (scI L i j c).2 then (i + 1 + c, dp L i j (i + 1 + c)) else scI L i j c := rfl
    have eS : scS L tol i j (c + 1) = if gt (dp L i j (i + 1 + c)) (scS L tol i j c).2 then (((i + 1 + c : Nat) : Int), dp L i j (i + 1 + c)) else scS L tol i j c := rfl
    rw [eI, eS]
    generalize dp L i j (i + 1 + c) = D
    cases g1 : gt D (scI L i j c).2
    · rw [if_neg (by simp)]
      refine ⟨n1, n2, ?_⟩
      cases g2 : gt (scI L i j c).2 tol
      · rw [g2] at n3
        rw [if_neg (by simp)] at n3 ⊢
        rw [n3]
        have : gt D tol = false := by
          cases h : gt D tol
          · rfl
          · have a := (gt_key _ _).1 h
            have b : ¬ (key tol < key (scI L i j c).2) := fun x => by have := (gt_key (scI L i j c).2 tol).2 ⟨n1, ht, x⟩; rw [g2] at this; cases this
            have d : gt D (scI L i j c).2 = true := (gt_key _ _).2 ⟨a.1, n1, by omega⟩
            rw [g1] at d; exact d.symm
        rw [this]; rfl
      · rw [g2] at n3
        rw [if_pos rfl] at n3 ⊢
        rw [n3, g1]; rfl
    · rw [if_pos rfl]
      have a := (gt_key _ _).1 g1
      refine ⟨a.1, by show 0 ≤ key D; omega, ?_⟩
      dsimp only
      cases g2 : gt (scI L i j c).2 tol
      · rw [g2] at n3
        rw [if_neg (by simp)] at n3
        rw [n3]
        cases g3 : gt D tol
        · rfl
        · rfl
      · rw [g2] at n3
        rw [if_pos rfl] at n3
        rw [n3]
        have b := (gt_key _ _).1 g2
        have g3 : gt D tol = true := (gt_key _ _).2 ⟨a.1, ht, by omega⟩
        rw [g3]
        dsimp only
        rw [g1]; rfl
theorem sc_place (L : Lv) (i j c : Nat) : (scI L i j c).1 = i ∧ (scI L i j c).2 = 0 ∨ i < (scI L i j c).1 ∧ (scI L i j c).1 ≤ i + c := by
  induction c with
  | zero => exact .inl ⟨rfl, rfl⟩
  | succ c ih =>
    have eI : scI L i j (c + 1) = if gt (dp L i j (i + 1 + c)) (scI L i j c).2 then (i + 1 + c, dp L i j (i + 1 + c)) else scI L i j c := rfl
    rw [eI]
    split
    · right; dsimp only; omega
    · rcases ih with h | h
      · exact .inl h
      · right; omega
/-- The places between i and j. -/
def sg2 (L : Lv) (tol : Nat) : Nat → Nat → Nat → List Int
  | 0, _, _ => []
  | f + 1, i, j => if gt (scI L i j (j - i - 1)).2 tol then sg2 L tol f i (scI L i j (j - i - 1)).1 ++ [((scI L i j (j - i - 1)).1 : Int)] ++ sg2 L tol f (scI L i j (j - i - 1)).1 j else []
end Go.Proofs.Ytjnjpbbpphklhaa.Flt
