/- What the law asks, plain: small whole rows come back; sums stay known numbers; real rows tell the same from both ends. -/
import Derived.Test.YtgnnmepjdmcecaaWx
namespace Go.Proofs.Ytgnnmepjdmcecaa.Flt
open Ieee
open Go.Proofs.Ytgnnmepjdmcecaa.Wv

/-- a small whole number -/
def Pw (x : Nat) : Prop := ∃ a : Int, Wn x a ∧ a.natAbs < 1000
theorem Pw.num {x : Nat} (h : Pw x) : Wn x (Flt.num x / (U : Int)) ∧ (Flt.num x / (U : Int)).natAbs < 1000 := by
  obtain ⟨a, h, ha⟩ := h
  have hU : (U : Int) ≠ 0 := by have := U_pos; omega
  have e : Flt.num x / (U : Int) = a := by rw [h.2]; exact Int.mul_ediv_cancel _ hU
  rw [e]
  exact ⟨h, ha⟩
def zA (L : Pr.Ls) (i : Nat) : Int := if i < L.length then Flt.num (Flt.cn (Pr.c0 L i)) / (U : Int) else 0
def zB (L : Pr.Ls) (i : Nat) : Int := if i < L.length then Flt.num (Flt.cn (Pr.c1 L i)) / (U : Int) else 0
def Plain (L : Pr.Ls) : Prop := ∀ i, i < L.length → Pw (Flt.cn (Pr.c0 L i)) ∧ Pw (Flt.cn (Pr.c1 L i))
theorem Plain.z {L : Pr.Ls} (h : Plain L) : (∀ i, i < L.length → Wn (Flt.cn (Pr.c0 L i)) (zA L i) ∧ Wn (Flt.cn (Pr.c1 L i)) (zB L i)) ∧ ∀ i, (zA L i).natAbs ≤ 999 ∧ (zB L i).natAbs ≤ 999 := by
  constructor
  · intro i hi
    unfold zA zB
    rw [if_pos hi, if_pos hi]
    exact ⟨(h i hi).1.num.1, (h i hi).2.num.1⟩
  · intro i
    unfold zA zB
    by_cases hi : i < L.length
    · rw [if_pos hi, if_pos hi]
      have h1 := (h i hi).1.num.2
      have h2 := (h i hi).2.num.2
      omega
    · rw [if_neg hi, if_neg hi]
      simp
theorem comes {L C : Pr.Ls} (h : Plain L) (hn : L.length = 1 ∨ L.length = 2 ∨ L.length = 4) (T : Wl.Tells C (wf L (-1) L.length) L.length) (k : Nat) (hk : k < L.length) :
    (Flt.key (uf C k).1 = Flt.key (Flt.cn (Pr.c0 L k)) ∧ rng (uf C k).1 < 9218868437227405312) ∧ (Flt.key (uf C k).2 = Flt.key (Flt.cn (Pr.c1 L k)) ∧ rng (uf C k).2 < 9218868437227405312) := by
  obtain ⟨hz, hb⟩ := h.z
  obtain ⟨hC, hT⟩ := T
  have key : ∀ d : Int, (-1 : Int) * ((36 : Int) / (L.length : Int)) = 9 * (-d) → (1 : Int) * ((36 : Int) / (L.length : Int)) = 9 * d →
      zs (fun i => (zs (zA L) (zB L) (-d) i L.length).1) (fun i => (zs (zA L) (zB L) (-d) i L.length).2) d k L.length = ((L.length : Int) * zA L k, (L.length : Int) * zB L k) → (Flt.key (uf C k).1 = Flt.key (Flt.cn (Pr.c0 L k)) ∧ rng (uf C k).1 < 9218868437227405312) ∧ (Flt.key (uf C k).2 = Flt.key (Flt.cn (Pr.c1 L k)) ∧ rng (uf C k).2 < 9218868437227405312) := by
    intro d d1 d2 hback
    have w1 : ∀ i, i < L.length → Wn (Flt.cn (Pr.c0 C i)) (zs (zA L) (zB L) (-d) i L.length).1 ∧ Wn (Flt.cn (Pr.c1 C i)) (zs (zA L) (zB L) (-d) i L.length).2 := fun i hi => by
      have := ws_whole L (-1) (-d) L.length i (zA L) (zB L) 999 (by omega) d1 hz hb L.length (Nat.le_refl _) (by omega)
      rw [(hT i hi).1, (hT i hi).2]
      exact this
    have bz : ∀ i, (zs (zA L) (zB L) (-d) i L.length).1.natAbs ≤ 7992 ∧ (zs (zA L) (zB L) (-d) i L.length).2.natAbs ≤ 7992 := fun i => by
      have := zs_in (zA L) (zB L) (-d) i 999 hb L.length
      omega
    have w2 := ws_whole C 1 d L.length k _ _ 7992 (by omega) d2 w1 bz L.length (Nat.le_refl _) (by omega)
    rw [hback] at w2
    have lt := ws_lt C 1 L.length k L.length
    have hbk := hb k
    have q1 := Wn.quo L.length hn (by omega) w2.1 lt.1
    have q2 := Wn.quo L.length hn (by omega) w2.2 lt.2
    have f1 : Flt.key (floatOfInt .f64 (zA L k)) = Flt.key (Flt.cn (Pr.c0 L k)) := by rw [(hz k hk).1.key, ← (Wn.fl (zA L k) (by omega)).key]
    have f2 : Flt.key (floatOfInt .f64 (zB L k)) = Flt.key (Flt.cn (Pr.c1 L k)) := by rw [(hz k hk).2.key, ← (Wn.fl (zB L k) (by omega)).key]
    unfold uf wf
    rw [hC]
    exact ⟨⟨q1.1.trans f1, q1.2⟩, ⟨q2.1.trans f2, q2.2⟩⟩
  rcases hn with e | e | e
  · rw [e] at hk key
    have ek : k = 0 := by omega
    subst ek
    refine key 4 (by decide) (by decide) ?_
    rw [back1]
    simp
  · rw [e] at hk key
    exact key 2 (by decide) (by decide) (back2 _ _ k hk)
  · rw [e] at hk key
    exact key 1 (by decide) (by decide) (back4 _ _ k hk)

/-- a known number of at most these digits -/
def Fn (x : Nat) (E : Int) : Prop := Ex x E ∧ rng x < 9218868437227405312
theorem Wn.fn {x : Nat} {a : Int} (h : Wn x a) (ha : a.natAbs < 1000) : Fn x 12 := by
  have f := Wn.fl a (by omega)
  have e : Flt.key x = Flt.key (floatOfInt .f64 a) := by rw [h.key, f.key]
  have r : rng x = rng (floatOfInt .f64 a) := by
    have := congrArg Int.natAbs e
    rw [key_abs, key_abs] at this
    exact this
  have all : ∀ v : Fin 1999, rng (floatOfInt .f64 ((v.val : Int) - 999)) ≤ 1034 * 4503599627370496 := by decide +kernel
  have b := all ⟨(a + 999).toNat, by omega⟩
  have ea : (((a + 999).toNat : Nat) : Int) - 999 = a := by rw [Int.toNat_of_nonneg (by omega)]; omega
  simp only [ea] at b
  rw [← r] at b
  exact ex_of x 10 (by omega) (by omega) (by omega)
theorem ws_fin (L : Pr.Ls) (by_ : Int) (n k : Nat) (hL : ∀ i, i < n → Fn (Flt.cn (Pr.c0 L i)) 12 ∧ Fn (Flt.cn (Pr.c1 L i)) 12) :
    ∀ i, i ≤ n → i ≤ 36 → Fn (ws L by_ n k i).1 (19 + 3 * (i : Int)) ∧ Fn (ws L by_ n k i).2 (19 + 3 * (i : Int))
  | 0, _, _ => by
    have z : Fn 0 19 := ⟨⟨false, 0, -1074, by rw [read_eq, if_pos (by decide)]; rfl, .inl rfl⟩, by decide⟩
    exact ⟨z, z⟩
  | i + 1, hi, h36 => by
    have ih := ws_fin L by_ n k hL i (by omega) (by omega)
    have l := hL i (by omega)
    have t := term_key _ _ (ang by_ n i k) 12 (by omega) (by omega) l.1.1 l.2.1 l.1.2 l.2.2
    have a1 := add_ex ih.1.1 (t.1.2.1.mono (by omega)) (by omega) (by omega)
    have a2 := add_ex ih.2.1 (t.2.2.1.mono (by omega)) (by omega) (by omega)
    exact ⟨⟨a1.1.mono (by omega), a1.2⟩, ⟨a2.1.mono (by omega), a2.2⟩⟩

theorem ks_neg (k : Int) : ks (-k) = - ks k := by
  have : ∀ k : Fin 36, ks (-(k.val : Int)) = - ks (k.val : Int) := by decide +kernel
  have q := this ⟨(k % 36).toNat, by omega⟩
  have e : (((k % 36).toNat : Nat) : Int) = k % 36 := Int.toNat_of_nonneg (by omega)
  simp only [e] at q
  rw [ks_mod] at q
  rw [← q]
  unfold ks
  congr 2
  omega
theorem ks_even (k : Int) : ks (-k + 9) = ks (k + 9) := by
  have : ∀ k : Fin 36, ks (-(k.val : Int) + 9) = ks ((k.val : Int) + 9) := by decide +kernel
  have q := this ⟨(k % 36).toNat, by omega⟩
  have e : (((k % 36).toNat : Nat) : Int) = k % 36 := Int.toNat_of_nonneg (by omega)
  simp only [e] at q
  rw [ks_add] at q
  rw [← q]
  unfold ks
  congr 2
  omega
theorem ang_far {by_ : Int} {n i k k' : Nat} (hlg : Lg.lg n = true) (hk : k + k' = n ∨ k + k' = 0) : ∃ j : Int, ang by_ n i k' = -(ang by_ n i k) + 36 * j := by
  have h36 : ((36 : Int) / (n : Int)) * (n : Int) = 36 := by
    unfold Lg.lg at hlg
    rw [Bool.and_eq_true, decide_eq_true_eq, decide_eq_true_eq] at hlg
    refine Int.ediv_mul_cancel ?_
    have : n ∣ 36 := Nat.dvd_of_mod_eq_zero hlg.2
    exact_mod_cast this
  unfold ang
  rcases hk with hk | hk
  · refine ⟨by_ * i, ?_⟩
    have e : (k' : Int) = (n : Int) - (k : Int) := by omega
    rw [e, Int.mul_sub]
    have : by_ * ((36 : Int) / (n : Int)) * (i : Int) * (n : Int) = 36 * (by_ * i) := by
      calc by_ * ((36 : Int) / (n : Int)) * (i : Int) * (n : Int) = (((36 : Int) / (n : Int)) * (n : Int)) * (by_ * i) := by ac_rfl
        _ = _ := by rw [h36]
    rw [this]
    omega
  · have h1 : k = 0 := by omega
    have h2 : k' = 0 := by omega
    subst h1 h2
    exact ⟨0, by simp⟩
theorem key_add {x y : Nat} (hx : rng x < 9218868437227405312) (hy : rng y < 9218868437227405312) : Flt.key (opF .add x y) = Am (NV (Flt.key x) + NV (Flt.key y)) := by
  rw [(add_key x y hx hy).1, NV_key, NV_key]
/-- a real row: the sums from both ends -/
theorem ws_far (L : Pr.Ls) (by_ : Int) (n k k' : Nat) (hlg : Lg.lg n = true) (hk : k + k' = n ∨ k + k' = 0) (hL : ∀ i, i < n → Fn (Flt.cn (Pr.c0 L i)) 12 ∧ Fn (Flt.cn (Pr.c1 L i)) 12) (h0 : ∀ i, i < n → Flt.key (Flt.cn (Pr.c1 L i)) = 0) :
    ∀ i, i ≤ n → i ≤ 36 → Flt.key (ws L by_ n k' i).1 = Flt.key (ws L by_ n k i).1 ∧ Flt.key (ws L by_ n k' i).2 = - Flt.key (ws L by_ n k i).2
  | 0, _, _ => ⟨rfl, by show Flt.key 0 = - Flt.key 0; decide⟩
  | i + 1, hi, h36 => by
    have ih := ws_far L by_ n k k' hlg hk hL h0 i (by omega) (by omega)
    have l := hL i (by omega)
    have z := h0 i (by omega)
    obtain ⟨j, hj⟩ := ang_far (by_ := by_) (i := i) hlg hk
    have t := term_key _ _ (ang by_ n i k) 12 (by omega) (by omega) l.1.1 l.2.1 l.1.2 l.2.2
    have t' := term_key _ _ (ang by_ n i k') 12 (by omega) (by omega) l.1.1 l.2.1 l.1.2 l.2.2
    have f := ws_fin L by_ n k hL i (by omega) (by omega)
    have f' := ws_fin L by_ n k' hL i (by omega) (by omega)
    have c1 : ks (ang by_ n i k') = - ks (ang by_ n i k) := by rw [hj, ks_36, ks_neg]
    have c2 : ks (ang by_ n i k' + 9) = ks (ang by_ n i k + 9) := by
      rw [hj, show -(ang by_ n i k) + 36 * j + 9 = -(ang by_ n i k) + 9 + 36 * j by omega, ks_36, ks_even]
    have r1 : Flt.key (Wa.mre (Flt.cn (Pr.c0 L i)) (Flt.cn (Pr.c1 L i)) (sine ((ang by_ n i k' + 9) % 36)) (sine (ang by_ n i k' % 36))) = Flt.key (Wa.mre (Flt.cn (Pr.c0 L i)) (Flt.cn (Pr.c1 L i)) (sine ((ang by_ n i k + 9) % 36)) (sine (ang by_ n i k % 36))) := by
      rw [t.1.1, t'.1.1, c1, c2, z]
      unfold TR
      rw [zero_MK, zero_MK]
    have r2 : Flt.key (Wa.mim (Flt.cn (Pr.c0 L i)) (Flt.cn (Pr.c1 L i)) (sine ((ang by_ n i k' + 9) % 36)) (sine (ang by_ n i k' % 36))) = - Flt.key (Wa.mim (Flt.cn (Pr.c0 L i)) (Flt.cn (Pr.c1 L i)) (sine ((ang by_ n i k + 9) % 36)) (sine (ang by_ n i k % 36))) := by
      rw [t.2.1, t'.2.1, c1, c2, z]
      unfold TI
      rw [zero_MK, MK_neg, NV_neg, NV_zero, Int.add_zero, Int.add_zero, Am_neg]
    constructor
    · show Flt.key (opF .add _ _) = Flt.key (opF .add _ _)
      rw [key_add f'.1.2 t'.1.2.2, key_add f.1.2 t.1.2.2, ih.1, r1]
    · show Flt.key (opF .add _ _) = - Flt.key (opF .add _ _)
      rw [key_add f'.2.2 t'.2.2.2, key_add f.2.2 t.2.2.2, ih.2, r2, NV_neg, NV_neg, ← Int.neg_add, Am_neg]
end Go.Proofs.Ytgnnmepjdmcecaa.Flt
