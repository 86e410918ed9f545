/- The cost along one unknown, plain: a parabola, its least place; what a descent tells. -/
import Derived.Test.YtaakiemmodncpaaCf
namespace Go.Proofs.Ytaakiemmodncpaa.Dp
open Go.Proofs.Ytaakiemmodncpaa.Al Go.Proofs.Ytaakiemmodncpaa.Su Go.Proofs.Ytaakiemmodncpaa.Po Go.Proofs.Ytaakiemmodncpaa.Cs Go.Proofs.Ytaakiemmodncpaa.Cf

theorem sm_add (n : Nat) (f g : Nat → Int) : sm n (fun i => f i + g i) = sm n f + sm n g := by
  induction n with
  | zero => rfl
  | succ n ih => show sm n (fun i => f i + g i) + (f n + g n) = (sm n f + f n) + (sm n g + g n); rw [ih]; omega
theorem sm_mul (n : Nat) (c : Int) (f : Nat → Int) : sm n (fun i => f i * c) = sm n f * c := by
  induction n with
  | zero => simp [sm]
  | succ n ih => show sm n (fun i => f i * c) + f n * c = (sm n f + f n) * c; rw [ih, Int.add_mul]
theorem sm_put {n i : Nat} {f g : Nat → Int} {d : Int} (hi : i < n) (h : ∀ j, j < n → j ≠ i → g j = f j) (hd : g i = f i + d) : sm n g = sm n f + d := by
  induction n with
  | zero => omega
  | succ n ih =>
    unfold sm
    by_cases e : i = n
    · subst e
      rw [sm_congr (n := i) (f := g) (g := f) (fun j hj => h j (by omega) (by omega)), hd]
      omega
    · rw [ih (by omega) (fun j hj hn => h j (by omega) hn), h n (by omega) (fun x => e x.symm)]
      omega
theorem sm_nn {n : Nat} {f : Nat → Int} (h : ∀ i, i < n → 0 ≤ f i) : 0 ≤ sm n f := by
  induction n with
  | zero => exact Int.le_refl _
  | succ n ih => unfold sm; have := ih fun i hi => h i (by omega); have := h n (by omega); omega
theorem sm_one {n : Nat} {f : Nat → Int} (h : ∀ i, i < n → 0 ≤ f i) {j : Nat} (hj : j < n) : f j ≤ sm n f := by
  induction n with
  | zero => omega
  | succ n ih =>
    unfold sm
    by_cases e : j = n
    · subst e
      have := sm_nn (n := j) (f := f) fun i hi => h i (by omega)
      omega
    · have := ih (fun i hi => h i (by omega)) (by omega)
      have := h n (by omega)
      omega
theorem mv_at {X : List Int} {i : Nat} {t : Int} (hi : i < X.length) (j : Nat) : (mv X i t).getD j 0 = if j = i then X.getD i 0 + t else X.getD j 0 := by
  unfold mv
  by_cases e : j = i
  · subst e; rw [if_pos rfl]; simp [List.getD_eq_getElem?_getD, hi]
  · rw [if_neg e]; simp [List.getD_eq_getElem?_getD, List.getElem?_set_ne (Ne.symm e)]
/-- how much the cost bends along the unknown i -/
def bd (T : List Int) (R : Rw.Ls) (i : Nat) : Int := T.getD i 0 + sm R.length fun k => Rw.cz R k 2 * ((Rw.cl R k).getD i 0 * (Rw.cl R k).getD i 0)
/-- half its slope there -/
def sl (G T : List Int) (R : Rw.Ls) (X : List Int) (n i : Nat) : Int := T.getD i 0 * (X.getD i 0 - G.getD i 0) + sm R.length fun k => Rw.cz R k 2 * (Rw.cl R k).getD i 0 * dev R X n k
section
variable {n : Nat} {G T : List Int} {R : Rw.Ls} {X : List Int} {i : Nat}
theorem dev_mv (hX : X.length = n) (hi : i < n) (t : Int) (k : Nat) : dev R (mv X i t) n k = dev R X n k + (Rw.cl R k).getD i 0 * t := by
  unfold dev hx
  rw [sm_put (i := i) (f := fun j => (Rw.cl R k).getD j 0 * X.getD j 0) (d := (Rw.cl R k).getD i 0 * t) hi]
  · omega
  · intro j hj hn
    show _ * (mv X i t).getD j 0 = _
    rw [mv_at (by omega), if_neg hn]
  · show _ * (mv X i t).getD i 0 = _
    rw [mv_at (by omega), if_pos rfl, Int.mul_add]
theorem cost_mv (hX : X.length = n) (hi : i < n) (t : Int) : cost G T R (mv X i t) n = cost G T R X n + (bd T R i * (t * t) + 2 * (sl G T R X n i * t)) := by
  have h1 : ct G T (mv X i t) n = ct G T X n + (T.getD i 0 * (t * t) + 2 * (T.getD i 0 * (X.getD i 0 - G.getD i 0) * t)) := by
    unfold ct
    refine sm_put (i := i) hi (fun j hj hn => ?_) ?_
    · unfold ctm; rw [mv_at (by omega), if_neg hn]
    · unfold ctm; rw [mv_at (by omega), if_pos rfl]; grind
  have h2 : cr R (mv X i t) n R.length = cr R X n R.length + (sm R.length (fun k => Rw.cz R k 2 * ((Rw.cl R k).getD i 0 * (Rw.cl R k).getD i 0)) * (t * t) + sm R.length (fun k => Rw.cz R k 2 * (Rw.cl R k).getD i 0 * dev R X n k) * (2 * t)) := by
    unfold cr
    rw [← sm_mul, ← sm_mul, ← sm_add, ← sm_add]
    refine sm_congr fun k _ => ?_
    unfold crm
    rw [dev_mv hX hi]
    grind
  unfold cost bd sl
  rw [h1, h2]
  grind
theorem mv_zero' (hX : X.length = n) (hi : i < n) : mv X i 0 = X := mv_zero X i (by omega)

/-- the best move where the cost bends by b and half slopes by s -/
def bst (b s : Int) : Int := if 0 < s then -((2 * s + b - 1) / (2 * b)) else (2 * (-s) + b - 1) / (2 * b)
/-- how far it falls on a side -/
def far (b s σ : Int) : Int := if s * σ < 0 then (2 * (-(s * σ)) + b - 1) / (2 * b) else 0
theorem far_nn {b s σ : Int} (hb : 1 ≤ b) : 0 ≤ far b s σ := by
  unfold far
  split
  · exact Int.ediv_nonneg (by omega) (by omega)
  · exact Int.le_refl _
/-- still falling behind t: just so far -/
theorem fall_iff {b s σ t : Int} (hb : 1 ≤ b) (ht : 1 ≤ t) (hσ : σ = 1 ∨ σ = -1) : (b * ((σ * t) * (σ * t)) + 2 * (s * (σ * t)) < b * ((σ * t - σ) * (σ * t - σ)) + 2 * (s * (σ * t - σ))) ↔ t ≤ far b s σ := by
  have e : (b * ((σ * t) * (σ * t)) + 2 * (s * (σ * t)) < b * ((σ * t - σ) * (σ * t - σ)) + 2 * (s * (σ * t - σ))) ↔ 2 * (b * t) < b + 2 * (-(s * σ)) := by
    rcases hσ with rfl | rfl
    · have : b * ((1 * t - 1) * (1 * t - 1)) + 2 * (s * (1 * t - 1)) = b * ((1 * t) * (1 * t)) + 2 * (s * (1 * t)) + (b - 2 * (b * t) - 2 * (s * 1)) := by grind
      rw [this]; omega
    · have : b * ((-1 * t - -1) * (-1 * t - -1)) + 2 * (s * (-1 * t - -1)) = b * ((-1 * t) * (-1 * t)) + 2 * (s * (-1 * t)) + (b - 2 * (b * t) - 2 * (s * -1)) := by grind
      rw [this]; omega
  rw [e]
  unfold far
  have hbt : b ≤ b * t := by have := Int.mul_le_mul_of_nonneg_left ht (show (0 : Int) ≤ b by omega); omega
  split
  · rename_i h
    rw [Int.le_ediv_iff_mul_le (by omega : (0 : Int) < 2 * b)]
    have : t * (2 * b) = 2 * (b * t) := by grind
    rw [this]
    omega
  · rename_i h
    constructor
    · intro h1; omega
    · intro h1; omega
/-- where it falls so far it is lower there -/
theorem far_low {b s σ : Int} (hb : 1 ≤ b) (hσ : σ = 1 ∨ σ = -1) (h : 1 ≤ far b s σ) : b * ((σ * far b s σ) * (σ * far b s σ)) + 2 * (s * (σ * far b s σ)) ≤ -(b * (far b s σ * (far b s σ - 1))) - far b s σ := by
  have h1 := (fall_iff (b := b) (s := s) (t := far b s σ) hb h hσ).2 (Int.le_refl _)
  generalize far b s σ = q at *
  have e : b * ((σ * q) * (σ * q)) + 2 * (s * (σ * q)) < b * ((σ * q - σ) * (σ * q - σ)) + 2 * (s * (σ * q - σ)) := h1
  have e2 : 2 * (b * q) + 1 ≤ b + 2 * (-(s * σ)) := by
    rcases hσ with rfl | rfl
    · have : b * ((1 * q - 1) * (1 * q - 1)) + 2 * (s * (1 * q - 1)) = b * ((1 * q) * (1 * q)) + 2 * (s * (1 * q)) + (b - 2 * (b * q) - 2 * (s * 1)) := by grind
      rw [this] at e; omega
    · have : b * ((-1 * q - -1) * (-1 * q - -1)) + 2 * (s * (-1 * q - -1)) = b * ((-1 * q) * (-1 * q)) + 2 * (s * (-1 * q)) + (b - 2 * (b * q) - 2 * (s * -1)) := by grind
      rw [this] at e; omega
  have e3 := Int.mul_le_mul_of_nonneg_right e2 (show (0 : Int) ≤ q by omega)
  have e4 : (2 * (b * q) + 1) * q = 2 * (b * (q * q)) + q := by grind
  have e5 : (b + 2 * (-(s * σ))) * q = b * q + 2 * (-(s * σ * q)) := by grind
  have e6 : b * ((σ * q) * (σ * q)) = b * (q * q) := by rcases hσ with rfl | rfl <;> grind
  have e7 : s * (σ * q) = s * σ * q := by rw [Int.mul_assoc]
  have e8 : b * (q * (q - 1)) = b * (q * q) - b * q := by grind
  rw [e4, e5] at e3
  rw [e6, e7, e8]
  omega
theorem bst_far (b s : Int) (hb : 1 ≤ b) : bst b s = if 1 ≤ far b s 1 then far b s 1 else -(far b s (-1)) := by
  unfold bst far
  by_cases h : 0 < s
  · rw [if_pos h, if_neg (by omega : ¬ s * 1 < 0), if_pos (by omega : s * -1 < 0)]
    simp
  · rw [if_neg h]
    by_cases h2 : s = 0
    · subst h2
      have : (2 * (-(0:Int)) + b - 1) / (2 * b) = 0 := Int.ediv_eq_zero_of_lt (by omega) (by omega)
      rw [this]; simp
    · rw [if_pos (by omega : s * 1 < 0), if_neg (by omega : ¬ s * -1 < 0), Int.mul_one]
      split
      · rfl
      · rename_i h3
        have := Int.ediv_nonneg (show (0 : Int) ≤ 2 * (-s) + b - 1 by omega) (show (0 : Int) ≤ 2 * b by omega)
        omega
theorem far_one {b s : Int} (h : 1 ≤ far b s 1) : far b s (-1) = 0 := by
  unfold far at h ⊢
  split at h
  · rw [if_neg (by omega)]
  · omega
theorem bst_zero {b s : Int} (hb : 1 ≤ b) (h : bst b s = 0) : -b ≤ 2 * s ∧ 2 * s ≤ b := by
  unfold bst at h
  split at h
  · have h1 : (2 * s + b - 1) / (2 * b) = 0 := by omega
    have h2 : ¬ 1 ≤ (2 * s + b - 1) / (2 * b) := by omega
    rw [Int.le_ediv_iff_mul_le (by omega : (0 : Int) < 2 * b)] at h2
    omega
  · have h2 : ¬ 1 ≤ (2 * (-s) + b - 1) / (2 * b) := by omega
    rw [Int.le_ediv_iff_mul_le (by omega : (0 : Int) < 2 * b)] at h2
    omega

theorem bd_pos (O : Ok n G T R) (hi : i < n) : 1 ≤ bd T R i := by
  have a := O.tb i (by have := O.nT; omega)
  have b : 0 ≤ sm R.length fun k => Rw.cz R k 2 * ((Rw.cl R k).getD i 0 * (Rw.cl R k).getD i 0) := sm_nn fun k hk => by
    have w := O.wb k hk
    have h := O.hb k hk i (by have := O.nH k hk; omega)
    exact Int.mul_nonneg (by omega) (sq_bound h).1
  unfold bd
  omega
theorem cost_nn' (O : Ok n G T R) : 0 ≤ cost G T R X n := by
  unfold cost ct cr
  have a : 0 ≤ sm n (ctm G T X) := sm_nn fun j hj => by
    have b := O.tb j (by have := O.nT; omega)
    unfold ctm
    refine Int.mul_nonneg (by omega) ?_
    generalize X.getD j 0 - G.getD j 0 = a
    by_cases h : 0 ≤ a
    · exact Int.mul_nonneg h h
    · exact Int.mul_nonneg_of_nonpos_of_nonpos (by omega) (by omega)
  have b : 0 ≤ sm R.length (crm R X n) := sm_nn fun k hk => by
    have w := O.wb k hk
    unfold crm
    refine Int.mul_nonneg (by omega) ?_
    generalize dev R X n k = a
    by_cases h : 0 ≤ a
    · exact Int.mul_nonneg h h
    · exact Int.mul_nonneg_of_nonpos_of_nonpos (by omega) (by omega)
  omega
/-- A point on the way: no cost of more than a start can have. -/
structure Way (n : Nat) (G T : List Int) (R : Rw.Ls) (X : List Int) : Prop where
  len : X.length = n
  low : cost G T R X n ≤ 30000000000
theorem sq_le {a : Int} (h : a * a ≤ 30000000000) : -200000 ≤ a ∧ a ≤ 200000 := by
  by_cases h1 : 200000 < a
  · have := Int.mul_le_mul (show (200000 : Int) ≤ a by omega) (show (200000 : Int) ≤ a by omega) (by omega) (by omega)
    omega
  · by_cases h2 : a < -200000
    · have := Int.mul_le_mul (show (200000 : Int) ≤ -a by omega) (show (200000 : Int) ≤ -a by omega) (by omega) (by omega)
      rw [Int.neg_mul_neg] at this
      omega
    · omega
theorem Way.near (W : Way n G T R X) (O : Ok n G T R) (j : Nat) (hj : j < n) : -200500 ≤ X.getD j 0 ∧ X.getD j 0 ≤ 200500 := by
  have b := O.tb j (by have := O.nT; omega)
  have g := O.gb j (by have := O.nG; omega)
  have nn : ∀ j, j < n → 0 ≤ ctm G T X j := fun j hj => by
    have b := O.tb j (by have := O.nT; omega)
    unfold ctm
    refine Int.mul_nonneg (by omega) ?_
    generalize X.getD j 0 - G.getD j 0 = a
    by_cases h : 0 ≤ a
    · exact Int.mul_nonneg h h
    · exact Int.mul_nonneg_of_nonpos_of_nonpos (by omega) (by omega)
  have a1 := sm_one nn hj
  have a2 : 0 ≤ sm R.length (crm R X n) := sm_nn fun k hk => by
    have w := O.wb k hk
    unfold crm
    refine Int.mul_nonneg (by omega) ?_
    generalize dev R X n k = a
    by_cases h : 0 ≤ a
    · exact Int.mul_nonneg h h
    · exact Int.mul_nonneg_of_nonpos_of_nonpos (by omega) (by omega)
  have lo := W.low
  unfold cost ct cr at lo
  unfold ctm at a1
  have a3 : (X.getD j 0 - G.getD j 0) * (X.getD j 0 - G.getD j 0) ≤ T.getD j 0 * ((X.getD j 0 - G.getD j 0) * (X.getD j 0 - G.getD j 0)) := by
    have h0 : 0 ≤ (X.getD j 0 - G.getD j 0) * (X.getD j 0 - G.getD j 0) := by
      generalize X.getD j 0 - G.getD j 0 = a
      by_cases h : 0 ≤ a
      · exact Int.mul_nonneg h h
      · exact Int.mul_nonneg_of_nonpos_of_nonpos (by omega) (by omega)
    have := Int.mul_le_mul_of_nonneg_right (show (1 : Int) ≤ T.getD j 0 by omega) h0
    omega
  have a4 := sq_le (a := X.getD j 0 - G.getD j 0) (by unfold ctm at lo; omega)
  omega
theorem Way.pt (W : Way n G T R X) (O : Ok n G T R) : Pt n X := ⟨W.len, fun j hj => by have := W.near O j hj; omega⟩
theorem Way.ptm (W : Way n G T R X) (O : Ok n G T R) (hi : i < n) {u : Int} (hu : -700000 ≤ u ∧ u ≤ 700000) : Pt n (mv X i u) := by
  refine ⟨(mv_len _ _ _).trans W.len, fun j hj => ?_⟩
  have a := W.near O j hj
  have b := W.near O i hi
  rw [mv_at (by rw [W.len]; exact hi)]
  split <;> omega
def bs (G T : List Int) (R : Rw.Ls) (X : List Int) (n i : Nat) : Int := bst (bd T R i) (sl G T R X n i)
theorem Way.far_le (W : Way n G T R X) (O : Ok n G T R) (hi : i < n) {σ : Int} (hσ : σ = 1 ∨ σ = -1) : far (bd T R i) (sl G T R X n i) σ ≤ 200001 := by
  have hb := bd_pos O hi
  by_cases h : 1 ≤ far (bd T R i) (sl G T R X n i) σ
  · have a := far_low (b := bd T R i) (s := sl G T R X n i) hb hσ h
    have b := cost_mv (G := G) (T := T) (R := R) W.len hi (σ * far (bd T R i) (sl G T R X n i) σ)
    have c := cost_nn' (X := mv X i (σ * far (bd T R i) (sl G T R X n i) σ)) O
    have d := W.low
    generalize far (bd T R i) (sl G T R X n i) σ = q at *
    generalize bd T R i = bb at *
    have e : q * (q - 1) ≤ bb * (q * (q - 1)) := by
      have := Int.mul_le_mul_of_nonneg_right hb (Int.mul_nonneg (show (0 : Int) ≤ q by omega) (show (0 : Int) ≤ q - 1 by omega))
      omega
    have f : (q - 1) * (q - 1) ≤ q * (q - 1) := Int.mul_le_mul_of_nonneg_right (by omega) (by omega)
    have := sq_le (a := q - 1) (by omega)
    omega
  · omega
theorem Way.bs_le (W : Way n G T R X) (O : Ok n G T R) (hi : i < n) : -200001 ≤ bs G T R X n i ∧ bs G T R X n i ≤ 200001 := by
  unfold bs
  rw [bst_far _ _ (bd_pos O hi)]
  have a := W.far_le O hi (σ := 1) (.inl rfl)
  have b := W.far_le O hi (σ := -1) (.inr rfl)
  have c := far_nn (b := bd T R i) (s := sl G T R X n i) (σ := -1) (bd_pos O hi)
  split <;> omega
/-- a move lowers the cost -/
theorem bs_low (O : Ok n G T R) (hX : X.length = n) (hi : i < n) (h : bs G T R X n i ≠ 0) : cost G T R (mv X i (bs G T R X n i)) n < cost G T R X n := by
  have hb := bd_pos O hi
  have e := bst_far (bd T R i) (sl G T R X n i) hb
  rw [cost_mv hX hi]
  unfold bs at *
  split at e
  · rename_i h1
    have a := far_low hb (.inl rfl) h1
    rw [e]
    simp only [Int.one_mul] at a
    have := Int.mul_nonneg (show (0 : Int) ≤ bd T R i by omega) (Int.mul_nonneg (show (0 : Int) ≤ far (bd T R i) (sl G T R X n i) 1 by omega) (show (0 : Int) ≤ far (bd T R i) (sl G T R X n i) 1 - 1 by omega))
    omega
  · rename_i h1
    have h2 : 1 ≤ far (bd T R i) (sl G T R X n i) (-1) := by
      have := far_nn (b := bd T R i) (s := sl G T R X n i) (σ := -1) hb
      omega
    have a := far_low hb (.inr rfl) h2
    rw [e]
    simp only [Int.neg_mul, Int.one_mul] at a
    have := Int.mul_nonneg (show (0 : Int) ≤ bd T R i by omega) (Int.mul_nonneg (show (0 : Int) ≤ far (bd T R i) (sl G T R X n i) (-1) by omega) (show (0 : Int) ≤ far (bd T R i) (sl G T R X n i) (-1) - 1 by omega))
    simp only [Int.neg_mul] at *
    omega
theorem Way.step (W : Way n G T R X) (O : Ok n G T R) (hi : i < n) : Way n G T R (mv X i (bs G T R X n i)) := by
  refine ⟨(mv_len _ _ _).trans W.len, ?_⟩
  by_cases h : bs G T R X n i = 0
  · rw [h, mv_zero' W.len hi]; exact W.low
  · have := bs_low O W.len hi h
    have := W.low
    omega
theorem way_start (O : Ok n G T R) (hX : X.length = n) (h : ∀ j, j < n → -500 ≤ X.getD j 0 ∧ X.getD j 0 ≤ 500) : Way n G T R X := by
  refine ⟨hX, ?_⟩
  have n1 := O.n1
  have n6 := O.n6
  have a := sm_bound (n := n) (f := ctm G T X) (M := 5000000) (fun j hj => by
    have a := O.gb j (by have := O.nG; omega)
    have b := O.tb j (by have := O.nT; omega)
    have c := h j hj
    have d := sq_bound (a := X.getD j 0 - G.getD j 0) (A := 1000) (by omega)
    have e := mul_abs (a := T.getD j 0) (b := (X.getD j 0 - G.getD j 0) * (X.getD j 0 - G.getD j 0)) (A := 5) (B := 1000000) (by omega) (by omega)
    unfold ctm
    omega) n (Nat.le_refl _)
  have b := sm_bound (n := R.length) (f := crm R X n) (M := 1201250000) (fun k hk => by
    have x := sm_bound (n := n) (f := fun i => (Rw.cl R k).getD i 0 * X.getD i 0) (M := 2500) (fun j hj => by
      have a := O.hb k hk j (by have := O.nH k hk; omega)
      have := mul_abs (A := 5) (B := 500) a (h j hj)
      omega) n (Nat.le_refl _)
    have y := O.yb k hk
    have w := O.wb k hk
    have d : -15500 ≤ dev R X n k ∧ dev R X n k ≤ 15500 := by unfold dev hx; omega
    have s := sq_bound d
    have e := mul_abs (a := Rw.cz R k 2) (b := dev R X n k * dev R X n k) (A := 5) (B := 240250000) (by omega) (by omega)
    unfold crm
    omega) R.length (Nat.le_refl _)
  have := O.nR
  unfold cost ct cr
  omega

/-- A point and the moves that led there. -/
abbrev St := List Int × List (Int × Int × Int)
/-- One unknown is tried. -/
def st (G T : List Int) (R : Rw.Ls) (n : Nat) (most : Int) (i : Nat) (s : St) : St :=
  if bs G T R s.1 n i = 0 ∨ (s.2.length : Int) = most then s else (mv s.1 i (bs G T R s.1 n i), s.2 ++ [((i : Int), bs G T R s.1 n i, cost G T R (mv s.1 i (bs G T R s.1 n i)) n)])
/-- The first k unknowns, one behind the other. -/
def upto (G T : List Int) (R : Rw.Ls) (n : Nat) (most : Int) : Nat → St → St
  | 0, s => s
  | k + 1, s => st G T R n most k (upto G T R n most k s)
/-- So many rounds. -/
def rnds (G T : List Int) (R : Rw.Ls) (n : Nat) (most : Int) : Nat → St → St
  | 0, s => s
  | k + 1, s => upto G T R n most n (rnds G T R n most k s)
/-- What a descent ends at. -/
def Ends (G T : List Int) (R : Rw.Ls) (n : Nat) (most : Int) (s e : St) : Prop := ∃ m, rnds G T R n most m s = e ∧ upto G T R n most n e = e
theorem rnds_fix {most : Int} {s e : St} {m : Nat} (h : rnds G T R n most m s = e) (hf : upto G T R n most n e = e) : ∀ d, rnds G T R n most (m + d) s = e
  | 0 => h
  | d + 1 => by
    show upto G T R n most n (rnds G T R n most (m + d) s) = e
    rw [rnds_fix h hf d, hf]
theorem Ends.one {most : Int} {s e e' : St} (h : Ends G T R n most s e) (h' : Ends G T R n most s e') : e = e' := by
  obtain ⟨m, h1, h2⟩ := h
  obtain ⟨m', h1', h2'⟩ := h'
  have a := rnds_fix h1 h2 m'
  have b := rnds_fix h1' h2' m
  rw [Nat.add_comm] at b
  rw [← a, b]
theorem st_full {most : Int} {s : St} (h : (s.2.length : Int) = most) (i : Nat) : st G T R n most i s = s := by unfold st; rw [if_pos (.inr h)]
theorem upto_full {most : Int} {s : St} (h : (s.2.length : Int) = most) : ∀ k, upto G T R n most k s = s
  | 0 => rfl
  | k + 1 => by show st _ _ _ _ _ _ _ = _; rw [upto_full h k, st_full h]
theorem upto_add {most : Int} {s s' : St} {k : Nat} (h : upto G T R n most k s = s') (hf : (s'.2.length : Int) = most) : ∀ d, upto G T R n most (k + d) s = s'
  | 0 => h
  | d + 1 => by show st _ _ _ _ _ _ (upto G T R n most (k + d) s) = _; rw [upto_add h hf d, st_full hf]
/-- Full within a round: the descent ends there. -/
theorem ends_full {most : Int} {s s' : St} {m k : Nat} (hk : k ≤ n) (h : upto G T R n most k (rnds G T R n most m s) = s') (hf : (s'.2.length : Int) = most) : Ends G T R n most s s' := by
  refine ⟨m + 1, ?_, upto_full hf n⟩
  have := upto_add h hf (n - k)
  rw [show k + (n - k) = n by omega] at this
  exact this
/-- What holds on the way. -/
structure Good (n : Nat) (G T : List Int) (R : Rw.Ls) (most : Int) (s : St) : Prop where
  way : Way n G T R s.1
  few : (s.2.length : Int) ≤ most
theorem Good.st {most : Int} {s : St} (h : Good n G T R most s) (O : Ok n G T R) (hi : i < n) : Good n G T R most (st G T R n most i s) := by
  unfold Dp.st
  split
  · exact h
  · rename_i hn
    refine ⟨h.way.step O hi, ?_⟩
    have := h.few
    have h2 : (s.2.length : Int) ≠ most := fun e => hn (.inr e)
    simp
    omega
theorem Good.upto {most : Int} {s : St} (h : Good n G T R most s) (O : Ok n G T R) : ∀ k, k ≤ n → Good n G T R most (upto G T R n most k s)
  | 0, _ => h
  | k + 1, hk => (Good.upto h O k (by omega)).st O (by omega)
theorem Good.rnds {most : Int} {s : St} (h : Good n G T R most s) (O : Ok n G T R) : ∀ k, Good n G T R most (rnds G T R n most k s)
  | 0 => h
  | k + 1 => (Good.rnds h O k).upto O n (Nat.le_refl _)
end
end Go.Proofs.Ytaakiemmodncpaa.Dp
