/- What the law's tests say, plain. -/
import Derived.Test.YtgnnmepjdmcecaaWy
import Derived.Test.YtgnnmepjdmcecaaCuI
import Derived.Test.YtgnnmepjdmcecaaFh
import Derived.Test.YtgnnmepjdmcecaaAm
namespace Go.Proofs.Ytgnnmepjdmcecaa.Flt
open Ieee
open Go.Proofs.Ytgnnmepjdmcecaa.Wv

theorem is_of {x v : Nat} (h : cn x = v) (hv : rng v < 9218868437227405312) : x = v := by
  cases hx : nan x
  · rw [cn_num hx] at h; exact h
  · rw [cn_nan hx] at h
    subst h
    exact absurd hv (by decide)
theorem eq_ord {x y : Nat} (hx : rng x < 9218868437227405312) (hy : rng y < 9218868437227405312) (h : key x = key y) : (ord x y == some .eq) = true := by
  show (Ieee.double.order x y == some .eq) = true
  rw [order_key x y (by omega) (by omega), h]
  have : compare (key y) (key y) = .eq := by rw [Int.compare_eq_ite_lt]; simp
  rw [this]; rfl
theorem cmp_lt {a b : Int} (h : compare a b = .lt) : a < b := by
  rw [Int.compare_eq_ite_lt] at h
  by_cases c : a < b
  · exact c
  · rw [if_neg c] at h
    split at h <;> cases h
theorem cmp_gt {a b : Int} (h : compare a b = .gt) : b < a := by
  rw [Int.compare_eq_ite_lt] at h
  by_cases c : a < b
  · rw [if_pos c] at h; cases h
  · rw [if_neg c] at h
    by_cases d : b < a
    · exact d
    · rw [if_neg d] at h; cases h
theorem cmp_eq {a b : Int} (h : compare a b = .eq) : a = b := by
  rw [Int.compare_eq_ite_lt] at h
  by_cases c : a < b
  · rw [if_pos c] at h; cases h
  · rw [if_neg c] at h
    by_cases d : b < a
    · rw [if_pos d] at h; cases h
    · omega
theorem pw_of (x : Nat) (h1 : (ord x 13875379345695965184 == some .gt) = true) (h2 : (ord x 4652007308841189376 == some .lt) = true) :
    ∃ v, floatToIntVal .f64 x .i64 = some v ∧ v.natAbs < 1000 ∧ ((ord x (floatOfInt .f64 v) == some .eq) = true → Pw (cn x)) := by
  have hn : rng x ≤ 9218868437227405312 := by
    cases h : nan x
    · unfold nan at h; simpa using h
    · have : ord x 4652007308841189376 = none := order_nan _ _ (.inl (by unfold nan at h; simpa using h))
      rw [this] at h2
      cases h2
  have o1 : compare (key x) (key 13875379345695965184) = .gt := by
    have := order_key x 13875379345695965184 hn (by decide)
    have e : ord x 13875379345695965184 = some (compare (key x) (key 13875379345695965184)) := this
    rw [e] at h1
    simpa using h1
  have o2 : compare (key x) (key 4652007308841189376) = .lt := by
    have := order_key x 4652007308841189376 hn (by decide)
    have e : ord x 4652007308841189376 = some (compare (key x) (key 4652007308841189376)) := this
    rw [e] at h2
    simpa using h2
  have k1 := cmp_gt o1
  have k2 := cmp_lt o2
  have e1 : key 13875379345695965184 = -4652007308841189376 := by decide
  have e2 : key 4652007308841189376 = 4652007308841189376 := by decide
  rw [e1] at k1
  rw [e2] at k2
  have ra : rng x < 4652007308841189376 := by
    have := key_abs x
    omega
  have hv : val (rng x) < 1000 * U := by
    have a := val_lt ra
    have b : val 4652007308841189376 = 1000 * U := by
      have f := fl_num 1000 (by decide)
      have e : floatOfInt .f64 1000 = 4652007308841189376 := by decide +kernel
      rw [e] at f
      have g := f.2.1
      have n : num 4652007308841189376 = (val 4652007308841189376 : Int) := rfl
      rw [n] at g
      clear f e n a hn o1 o2 k1 k2 e1 e2 ra h1 h2
      generalize val 4652007308841189376 = p at *
      generalize U = u at *
      omega
    rw [b] at a
    exact a
  refine ⟨_, toInt_val x (by omega), ?_, fun h3 => ?_⟩
  · rw [show (sg (sgn x) (val (rng x) / U)).natAbs = val (rng x) / U from sg_abs _ _]
    exact Nat.div_lt_of_lt_mul (by rw [Nat.mul_comm]; exact hv)
  · have hb : (sg (sgn x) (val (rng x) / U)).natAbs < 1000 := by
      rw [show (sg (sgn x) (val (rng x) / U)).natAbs = val (rng x) / U from sg_abs _ _]
      exact Nat.div_lt_of_lt_mul (by rw [Nat.mul_comm]; exact hv)
    generalize sg (sgn x) (val (rng x) / U) = v at *
    have f := Wn.fl v (by omega)
    have e : ord x (floatOfInt .f64 v) = some (compare (key x) (key (floatOfInt .f64 v))) := order_key _ _ hn (Nat.le_of_lt f.1)
    rw [e] at h3
    have k := cmp_eq (show compare (key x) (key (floatOfInt .f64 v)) = .eq by simpa using h3)
    have hx : Wn x v := ⟨by omega, by rw [num_key k, f.2]⟩
    rw [hx.cn]
    exact ⟨v, hx, hb⟩

/-- the sums see no more of a row than what is known of it -/
theorem ws_same {L M : Pr.Ls} (h : ∀ i, cn (Pr.c0 L i) = cn (Pr.c0 M i) ∧ cn (Pr.c1 L i) = cn (Pr.c1 M i)) (by_ : Int) (n k : Nat) : ∀ i, ws L by_ n k i = ws M by_ n k i
  | 0 => rfl
  | i + 1 => by
    show (_, _) = (_, _)
    rw [ws_same h by_ n k i, (h i).1, (h i).2]
theorem cnp_at (C : Pr.Ls) (i : Nat) : cn (Pr.c0 C i) = Pr.c0 (C.map Fd.cnp) i ∧ cn (Pr.c1 C i) = Pr.c1 (C.map Fd.cnp) i := by
  unfold Pr.c0 Pr.c1
  rw [List.getD_eq_getElem?_getD, List.getD_eq_getElem?_getD, List.getElem?_map]
  cases C[i]? with
  | none => exact ⟨by decide +kernel, by decide +kernel⟩
  | some z => exact ⟨rfl, rfl⟩
theorem wf_same {C D : Pr.Ls} (h : C.map Fd.cnp = D.map Fd.cnp) (n : Nat) : wf C (-1) n = wf D (-1) n := by
  funext k
  refine ws_same (fun i => ?_) _ _ _ _
  rw [(cnp_at C i).1, (cnp_at C i).2, (cnp_at D i).1, (cnp_at D i).2, h]
  exact ⟨rfl, rfl⟩
theorem lg_eq (n : Nat) : Cu.lg n = Lg.lg n := rfl
theorem mn_le (n k : Nat) (h : k < n) : Cu.mn n k ≤ (n : Int) := by
  unfold Cu.mn
  split <;> omega
theorem cut_at (C : Pr.Ls) (hlg : Lg.lg C.length = true) : (Cu.cutA C (C.length : Int)).length = C.length ∧ ∀ i, i < C.length → Pr.c0 (Cu.cutA C (C.length : Int)) i = Pr.c0 C i ∧ Pr.c1 (Cu.cutA C (C.length : Int)) i = Pr.c1 C i := by
  unfold Cu.cutA
  rw [lg_eq, hlg, if_pos rfl]
  refine ⟨Cu.cutL_len _ _ _ _, fun i hi => ?_⟩
  have := Cu.cutL_at C C.length (C.length : Int) C.length i hi
  unfold Cu.ce at this
  rw [if_pos (mn_le _ _ hi)] at this
  unfold Pr.c0 Pr.c1 at this ⊢
  rw [this]
  exact ⟨rfl, rfl⟩

/-- all that the law asks of a plain row -/
theorem Plain.fn {L : Pr.Ls} (h : Plain L) (i : Nat) (hi : i < L.length) : Fn (cn (Pr.c0 L i)) 12 ∧ Fn (cn (Pr.c1 L i)) 12 := by
  obtain ⟨⟨a, ha, ba⟩, ⟨b, hb, bb⟩⟩ := h i hi
  exact ⟨ha.fn ba, hb.fn bb⟩
theorem waves_known {L C : Pr.Ls} (h : Plain L) (hlg : Lg.lg L.length = true) (T : Wl.Tells C (wf L (-1) L.length) L.length) (k : Nat) (hk : k < L.length) :
    (ord (Pr.c0 C k) (Pr.c0 C k) == some .eq) = true ∧ (ord (Pr.c1 C k) (Pr.c1 C k) == some .eq) = true := by
  have f := ws_fin L (-1) L.length k (fun i hi => h.fn i hi) L.length (Nat.le_refl _) (Lg.lg_le hlg).2
  have t := T.2 k hk
  have i1 := is_of t.1 f.1.2
  have i2 := is_of t.2 f.2.2
  rw [i1, i2]
  exact ⟨eq_ord f.1.2 f.1.2 rfl, eq_ord f.2.2 f.2.2 rfl⟩
theorem back_eq {L C D : Pr.Ls} (h : Plain L) (hn : L.length = 1 ∨ L.length = 2 ∨ L.length = 4) (T : Wl.Tells C (wf L (-1) L.length) L.length) (T2 : Wl.Tells D (uf C) L.length) (k : Nat) (hk : k < L.length) :
    (ord (Pr.c0 D k) (Pr.c0 L k) == some .eq) = true ∧ (ord (Pr.c1 D k) (Pr.c1 L k) == some .eq) = true := by
  have c := comes h hn T k hk
  have t := T2.2 k hk
  have i1 := is_of t.1 c.1.2
  have i2 := is_of t.2 c.2.2
  obtain ⟨⟨a, ha, _⟩, ⟨b, hb, _⟩⟩ := h k hk
  have j1 := is_of (x := Pr.c0 L k) rfl ha.1
  have j2 := is_of (x := Pr.c1 L k) rfl hb.1
  rw [i1, i2]
  rw [← j1] at c ha
  rw [← j2] at c hb
  exact ⟨eq_ord c.1.2 ha.1 c.1.1, eq_ord c.2.2 hb.1 c.2.1⟩
theorem far_eq {L C : Pr.Ls} (n : Nat) (hlg : Lg.lg n = true) (h : ∀ i, i < n → Pw (cn (Pr.c0 L i)) ∧ Pr.c1 L i = 0) (T : Wl.Tells C (wf L (-1) n) n) (k k' : Nat) (hk : k < n) (hk' : k' < n) (hs : k + k' = n ∨ k + k' = 0) (x y : Nat) (hx : cn x = cn (Pr.c0 C k)) (hy : cn y = opF .sub 0 (cn (Pr.c1 C k))) :
    (ord (Pr.c0 C k') x == some .eq) = true ∧ (ord (Pr.c1 C k') y == some .eq) = true := by
  have z0 : cn 0 = 0 := by decide +kernel
  have fz : Fn 0 12 := Wn.fn Wn_zero (by decide)
  have fl : ∀ i, i < n → Fn (cn (Pr.c0 L i)) 12 ∧ Fn (cn (Pr.c1 L i)) 12 := fun i hi => by
    obtain ⟨⟨a, ha, ba⟩, e⟩ := h i hi
    rw [e, z0]
    exact ⟨ha.fn ba, fz⟩
  have f0 : ∀ i, i < n → key (cn (Pr.c1 L i)) = 0 := fun i hi => by rw [(h i hi).2, z0]; rfl
  have le := (Lg.lg_le hlg).2
  have f := ws_fin L (-1) n k fl n (Nat.le_refl _) le
  have f' := ws_fin L (-1) n k' fl n (Nat.le_refl _) le
  have s := ws_far L (-1) n k k' hlg hs fl f0 n (Nat.le_refl _) le
  have t := T.2 k hk
  have t' := T.2 k' hk'
  have i1 := is_of t'.1 f'.1.2
  have i2 := is_of t'.2 f'.2.2
  rw [t.1] at hx
  rw [t.2] at hy
  have g := neg_key (wf L (-1) n k).2 f.2.2
  have j1 := is_of hx f.1.2
  have j2 := is_of hy (by rw [g.2.1]; exact f.2.2)
  rw [i1, i2, j1, j2]
  exact ⟨eq_ord f'.1.2 f.1.2 s.1, eq_ord f'.2.2 (by rw [g.2.1]; exact f.2.2) (by rw [g.1]; exact s.2)⟩
end Go.Proofs.Ytgnnmepjdmcecaa.Flt
