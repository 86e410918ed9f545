/- Heights, plainly: 36 hours later; nine hours later. -/
import Derived.Test.YtpmgbbhoplicgaaTp
import Derived.Test.YtpmgbbhoplicgaaRs
namespace Go.Proofs.Ytpmgbbhoplicgaa.Ti
open Go.ChangeShapes Go.WideShapes Go.ChangeAt Go.RowKit
open Flt Wa An Ho
theorem trm36 (L : Co.Ls) (h : Int) (i : Nat) : trm L (h + 36) i = trm L h i := by
  unfold trm
  have e : Co.c0 L i * (h + 36) = Co.c0 L i * h + 36 * Co.c0 L i := by rw [Int.mul_add]; omega
  rw [e]
  generalize Co.c0 L i * h = z
  generalize Co.c0 L i = c
  rw [show (z + 36 * c + 9) % 36 = (z + 9) % 36 by omega, show (z + 36 * c) % 36 = z % 36 by omega]
theorem hs36 (L : Co.Ls) (h : Int) : ∀ n, hs L (h + 36) n = hs L h n
  | 0 => rfl
  | n + 1 => by unfold hs; rw [hs36 L h n, trm36]
theorem H36 (L : Co.Ls) (h : Int) (h0 : inn h (-1000000) 1000000 = true) (h1 : inn (h + 36) (-1000000) 1000000 = true) : H0 L (h + 36) = H0 L h := by
  unfold H0
  rw [h0, h1, hs36]
/-- numbers below 1e100 without sign -/
def Lo (x : Nat) : Prop := rng x < 6103021453049119613
theorem lo_of {x : Nat} (h1 : (ord x 6103021453049119613 == some .lt) = true) (h2 : (ord x 15326393489903895421 == some .gt) = true) : Lo x := by
  have nn : rng x ≤ 9218868437227405312 := by
    rcases Nat.lt_or_ge 9218868437227405312 (rng x) with c | c
    · have : ord x 6103021453049119613 = none := order_nan _ _ (Or.inl c)
      rw [this] at h1
      exact absurd h1 (by decide)
    · exact c
  have r1 : rng 6103021453049119613 = 6103021453049119613 := by decide
  have r2 : rng 15326393489903895421 = 6103021453049119613 := by decide
  have k1 : key 6103021453049119613 = 6103021453049119613 := by decide
  have k2 : key 15326393489903895421 = -6103021453049119613 := by decide
  have o1 : ord x 6103021453049119613 = some (compare (key x) (key 6103021453049119613)) := order_key _ _ nn (by rw [r1]; decide)
  have o2 : ord x 15326393489903895421 = some (compare (key x) (key 15326393489903895421)) := order_key _ _ nn (by rw [r2]; decide)
  rw [o1, k1] at h1
  rw [o2, k2] at h2
  have l1 : key x < 6103021453049119613 := by
    have : compare (key x) 6103021453049119613 = .lt := by simpa using h1
    exact Int.compare_eq_lt.1 this
  have l2 : -6103021453049119613 < key x := by
    have : compare (key x) (-6103021453049119613) = .gt := by simpa using h2
    exact Int.compare_eq_gt.1 this
  unfold Lo
  rw [← key_abs]
  omega
theorem Lo.ex {x : Nat} (h : Lo x) : Ex x 334 ∧ rng x < 9218868437227405312 ∧ cn x = x := by
  unfold Lo at h
  have := ex_of x 332 (by omega) (by omega) (by omega)
  exact ⟨this.1, this.2, cn_num (by unfold nan; simp; omega)⟩
theorem later (L C : Co.Ls) (h : Int) (hT : Rl.Tells C (Ro.rf L 9) L.length) (hn : L.length ≤ 40) (hl : ∀ i, i < L.length → Lo (Co.c1 L i) ∧ Lo (Co.c2 L i)) :
    ∀ i : Nat, i ≤ L.length → key (hs C h i) = key (hs L (h + 9) i) ∧ (Ex (hs C h i) (350 + 3 * (i : Int)) ∧ rng (hs C h i) < 9218868437227405312) ∧ Ex (hs L (h + 9) i) (350 + 3 * (i : Int)) ∧ rng (hs L (h + 9) i) < 9218868437227405312
  | 0, _ => by
    have z : Ex 0 350 ∧ rng 0 < 9218868437227405312 := by
      have := ex_of 0 348 (by omega) (by omega) (by decide)
      exact ⟨this.1, this.2⟩
    exact ⟨rfl, by simpa [hs] using z, by simpa [hs] using z⟩
  | i + 1, hi => by
    obtain ⟨ek, ⟨x1, x2⟩, y1, y2⟩ := later L C h hT hn hl i (by omega)
    obtain ⟨t0, t1, t2⟩ := hT.2 i (by omega)
    obtain ⟨l1, l2⟩ := hl i (by omega)
    obtain ⟨a1, a2, a3⟩ := l1.ex
    obtain ⟨b1, b2, b3⟩ := l2.ex
    have T9 := term_key (Co.c1 L i) (Co.c2 L i) (Co.c0 L i * 9) 334 (by omega) (by omega) a1 b1 a2 b2
    have TL := term_key (Co.c1 L i) (Co.c2 L i) (Co.c0 L i * (h + 9)) 334 (by omega) (by omega) a1 b1 a2 b2
    have e1 : cn (Co.c1 C i) = mre (Co.c1 L i) (Co.c2 L i) (sine ((Co.c0 L i * 9 + 9) % 36)) (sine ((Co.c0 L i * 9) % 36)) := by
      rw [t1]; unfold Ro.rf trm; rw [a3, b3]
    have e2 : cn (Co.c2 C i) = mim (Co.c1 L i) (Co.c2 L i) (sine ((Co.c0 L i * 9 + 9) % 36)) (sine ((Co.c0 L i * 9) % 36)) := by
      rw [t2]; unfold Ro.rf tim; rw [a3, b3]
    have e0 : Co.c0 C i = Co.c0 L i := t0
    have TC := term_key (cn (Co.c1 C i)) (cn (Co.c2 C i)) (Co.c0 L i * h) 341 (by omega) (by omega) (by rw [e1]; exact T9.1.2.1) (by rw [e2]; exact T9.2.2.1) (by rw [e1]; exact T9.1.2.2) (by rw [e2]; exact T9.2.2.2)
    have tc : trm C h i = mre (cn (Co.c1 C i)) (cn (Co.c2 C i)) (sine ((Co.c0 L i * h + 9) % 36)) (sine ((Co.c0 L i * h) % 36)) := by unfold trm; rw [e0]
    have tl : trm L (h + 9) i = mre (Co.c1 L i) (Co.c2 L i) (sine ((Co.c0 L i * (h + 9) + 9) % 36)) (sine ((Co.c0 L i * (h + 9)) % 36)) := by unfold trm; rw [a3, b3]
    have kk : key (trm C h i) = key (trm L (h + 9) i) := by
      rw [tc, tl, TC.1.1, TL.1.1, e1, e2, T9.1.1, T9.2.1]
      have q := turned9 (key (Co.c1 L i)) (key (Co.c2 L i)) (by rw [key_abs]; exact a2) (by rw [key_abs]; exact b2) (Am_NV a2) (Am_NV b2) (Co.c0 L i) (Co.c0 L i * h)
      have f1 : Co.c0 L i * 9 = 9 * Co.c0 L i := Int.mul_comm _ _
      have f2 : Co.c0 L i * (h + 9) = Co.c0 L i * h + 9 * Co.c0 L i := by rw [Int.mul_add, f1]
      rw [f1, f2]
      exact q
    have xc : Ex (trm C h i) (350 + 3 * (i : Int)) := by rw [tc]; exact TC.1.2.1.mono (by omega)
    have rc : rng (trm C h i) < 9218868437227405312 := by rw [tc]; exact TC.1.2.2
    have xl : Ex (trm L (h + 9) i) (350 + 3 * (i : Int)) := by rw [tl]; exact TL.1.2.1.mono (by omega)
    have rl : rng (trm L (h + 9) i) < 9218868437227405312 := by rw [tl]; exact TL.1.2.2
    have s1 := add_ex x1 xc (by omega) (by omega)
    have s2 := add_ex y1 xl (by omega) (by omega)
    unfold hs
    refine ⟨?_, ⟨s1.1.mono (by omega), s1.2⟩, s2.1.mono (by omega), s2.2⟩
    rw [(add_key _ _ x2 rc).1, (add_key _ _ y2 rl).1, num_key ek, num_key kk]
theorem okP_of {L C : Co.Ls} {f : Nat → Int × Nat × Nat} (hT : Rl.Tells C f L.length) (hf : ∀ i, (f i).1 = Co.c0 L i) (h : okP L = true) : okP C = true := by
  have o := (okP_iff L).1 h
  refine (okP_iff C).2 ⟨by rw [hT.1]; exact o.1, fun i hi => ?_⟩
  rw [hT.1] at hi
  rw [(hT.2 i hi).1, hf]
  exact o.2 i hi
/-- the two heights are equal numbers -/
theorem equal9 (L C : Co.Ls) (h : Int) (x y : Nat) (hT : Rl.Tells C (Ro.rf L 9) L.length) (hok : okP L = true) (hl : ∀ i, i < L.length → Lo (Co.c1 L i) ∧ Lo (Co.c2 L i))
    (h0 : inn h (-1000000) 1000000 = true) (h1 : inn (h + 9) (-1000000) 1000000 = true) (hx : cn x = H0 C h) (hy : cn y = H0 L (h + 9)) : (ord x y == some .eq) = true := by
  have o := (okP_iff L).1 hok
  have oc := okP_of hT (fun i => rfl) hok
  obtain ⟨ek, ⟨_, x2⟩, _, y2⟩ := later L C h hT o.1 hl L.length (Nat.le_refl _)
  have ex : H0 C h = hs C h L.length := by unfold H0; rw [oc, h0, hT.1]; rfl
  have ey : H0 L (h + 9) = hs L (h + 9) L.length := by unfold H0; rw [hok, h1]; rfl
  have : ord x y = some .eq := by
    rw [← ord_cn, hx, hy, ex, ey]
    show Ieee.double.order _ _ = _
    rw [order_key _ _ (by omega) (by omega), ek]
    simp
  rw [this]
  rfl
end Go.Proofs.Ytpmgbbhoplicgaa.Ti
