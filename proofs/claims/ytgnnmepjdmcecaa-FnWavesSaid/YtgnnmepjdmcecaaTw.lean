/- Terms of the sums: their keys and bounds. -/
import Derived.Test.YtgnnmepjdmcecaaTp
import Derived.Test.YtgnnmepjdmcecaaWa
namespace Go.Proofs.Ytgnnmepjdmcecaa.Flt
open Ieee
theorem sine_small (k : Int) : Ex (sine (k % 36)) 1 ∧ rng (sine (k % 36)) < 9218868437227405312 := by
  have : ∀ k : Fin 36, rng (sine (k.val : Int)) ≤ 1023 * 4503599627370496 := by decide +kernel
  have q := this ⟨(k % 36).toNat, by omega⟩
  have e : (((k % 36).toNat : Nat) : Int) = k % 36 := Int.toNat_of_nonneg (by omega)
  simp only [e] at q
  have := ex_of (sine (k % 36)) (-1) (by omega) (by omega) (by omega)
  exact this
/-- a term's key and bounds -/
theorem term_key (a b : Nat) (k : Int) (E : Int) (h0 : -900 ≤ E) (h1 : E ≤ 800) (ha : Ex a E) (hb : Ex b E) (ra : rng a < 9218868437227405312) (rb : rng b < 9218868437227405312) :
    (key (Wa.mre a b (sine ((k + 9) % 36)) (sine (k % 36))) = TR (key a) (key b) (ks (k + 9)) (ks k) ∧ Ex (Wa.mre a b (sine ((k + 9) % 36)) (sine (k % 36))) (E + 7) ∧ rng (Wa.mre a b (sine ((k + 9) % 36)) (sine (k % 36))) < 9218868437227405312) ∧
    key (Wa.mim a b (sine ((k + 9) % 36)) (sine (k % 36))) = TI (key a) (key b) (ks (k + 9)) (ks k) ∧ Ex (Wa.mim a b (sine ((k + 9) % 36)) (sine (k % 36))) (E + 7) ∧ rng (Wa.mim a b (sine ((k + 9) % 36)) (sine (k % 36))) < 9218868437227405312 := by
  obtain ⟨c1, c2⟩ := sine_small (k + 9)
  obtain ⟨s1, s2⟩ := sine_small k
  have m1 := mul_ex ha c1 (by omega) (by omega)
  have m2 := mul_ex hb s1 (by omega) (by omega)
  have m3 := mul_ex ha s1 (by omega) (by omega)
  have m4 := mul_ex hb c1 (by omega) (by omega)
  have e1 := ex_sub m1.1 m2.1 m2.2 (by omega) (by omega)
  have e2 := add_ex m3.1 m4.1 (by omega) (by omega)
  unfold Wa.mre Wa.mim TR TI ks
  refine ⟨⟨?_, e1.1.mono (by omega), e1.2⟩, ?_, e2.1.mono (by omega), e2.2⟩
  · rw [(sub_key _ _ m1.2 m2.2).1, NV_key, NV_key, mulK _ _ ra c2, mulK _ _ rb s2]
  · rw [(add_key _ _ m3.2 m4.2).1, NV_key, NV_key, mulK _ _ ra s2, mulK _ _ rb c2]
end Go.Proofs.Ytgnnmepjdmcecaa.Flt
