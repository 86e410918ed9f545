/- FnDescends, plain: what a descent's moves do; the rows in the other order. -/
import Derived.Test.YtaakiemmodncpaaDe
import Derived.Test.YtaakiemmodncpaaCfI
namespace Go.Proofs.Ytaakiemmodncpaa.Df
open Go.Proofs.Ytaakiemmodncpaa.Al Go.Proofs.Ytaakiemmodncpaa.Su Go.Proofs.Ytaakiemmodncpaa.Po Go.Proofs.Ytaakiemmodncpaa.Cs Go.Proofs.Ytaakiemmodncpaa.Cf Go.Proofs.Ytaakiemmodncpaa.Dp Go.Proofs.Ytaakiemmodncpaa.De

theorem sm_head (n : Nat) (f : Nat → Int) : sm (n + 1) f = f 0 + sm n fun k => f (k + 1) := by
  induction n with
  | zero => show (0 : Int) + f 0 = f 0 + 0; omega
  | succ n ih => show sm (n + 1) f + f (n + 1) = f 0 + (sm n (fun k => f (k + 1)) + f (n + 1)); rw [ih]; omega
theorem sm_rev (n : Nat) (f : Nat → Int) : sm n (fun k => f (n - 1 - k)) = sm n f := by
  induction n with
  | zero => rfl
  | succ n ih =>
    rw [sm_head]
    show f (n + 1 - 1 - 0) + sm n (fun k => f (n + 1 - 1 - (k + 1))) = sm n f + f n
    rw [show n + 1 - 1 - 0 = n by omega, sm_congr (g := fun k => f (n - 1 - k)) (fun i hi => by rw [show n + 1 - 1 - (i + 1) = n - 1 - i by omega]), ih]
    omega
theorem rev_get (R : Rw.Ls) (k : Nat) (hk : k < R.length) : R.reverse.getD k (fun _ => 0, []) = R.getD (R.length - 1 - k) (fun _ => 0, []) := by
  simp [List.getD_eq_getElem?_getD, List.getElem?_reverse hk]
theorem rev_cz (R : Rw.Ls) (k j : Nat) (hk : k < R.length) : Rw.cz R.reverse k j = Rw.cz R (R.length - 1 - k) j := by unfold Rw.cz; rw [rev_get R k hk]
theorem rev_cl (R : Rw.Ls) (k : Nat) (hk : k < R.length) : Rw.cl R.reverse k = Rw.cl R (R.length - 1 - k) := by unfold Rw.cl; rw [rev_get R k hk]
section
variable {n : Nat} {G T : List Int} {R : Rw.Ls}
theorem rev_dev (X : List Int) (n k : Nat) (hk : k < R.length) : dev R.reverse X n k = dev R X n (R.length - 1 - k) := by unfold dev; rw [rev_cl R k hk, rev_cz R k 1 hk]
theorem rev_cost (X : List Int) (n : Nat) : cost G T R.reverse X n = cost G T R X n := by
  unfold cost cr
  rw [List.length_reverse, ← sm_rev R.length (crm R X n)]
  congr 1
  refine sm_congr fun k hk => ?_
  unfold crm
  rw [rev_dev X n k hk, rev_cz R k 2 hk]
theorem rev_bd (i : Nat) : bd T R.reverse i = bd T R i := by
  unfold bd
  rw [List.length_reverse, ← sm_rev R.length (fun k => Rw.cz R k 2 * ((Rw.cl R k).getD i 0 * (Rw.cl R k).getD i 0))]
  congr 1
  refine sm_congr fun k hk => ?_
  rw [rev_cl R k hk, rev_cz R k 2 hk]
theorem rev_sl (X : List Int) (n i : Nat) : sl G T R.reverse X n i = sl G T R X n i := by
  unfold sl
  rw [List.length_reverse, ← sm_rev R.length (fun k => Rw.cz R k 2 * (Rw.cl R k).getD i 0 * dev R X n k)]
  congr 1
  refine sm_congr fun k hk => ?_
  rw [rev_cl R k hk, rev_cz R k 2 hk, rev_dev X n k hk]
theorem rev_bs (X : List Int) (n i : Nat) : bs G T R.reverse X n i = bs G T R X n i := by unfold bs; rw [rev_bd, rev_sl]
theorem rev_st (most : Int) (i : Nat) (s : St) : st G T R.reverse n most i s = st G T R n most i s := by unfold Dp.st; rw [rev_bs, rev_cost]
theorem rev_upto (most : Int) (s : St) : ∀ k, upto G T R.reverse n most k s = upto G T R n most k s
  | 0 => rfl
  | k + 1 => by show st _ _ _ _ _ k (upto _ _ _ _ _ k s) = st _ _ _ _ _ k (upto _ _ _ _ _ k s); rw [rev_upto most s k, rev_st]
theorem rev_rnds (most : Int) (s : St) : ∀ k, rnds G T R.reverse n most k s = rnds G T R n most k s
  | 0 => rfl
  | k + 1 => by show upto _ _ _ _ _ n (rnds _ _ _ _ _ k s) = upto _ _ _ _ _ n (rnds _ _ _ _ _ k s); rw [rev_rnds most s k, rev_upto]
theorem rev_ends {most : Int} {s e : St} (h : Dp.Ends G T R n most s e) : Dp.Ends G T R.reverse n most s e := by
  obtain ⟨m, h1, h2⟩ := h
  exact ⟨m, by rw [rev_rnds]; exact h1, by rw [rev_upto]; exact h2⟩
theorem rev_ok {z : Int} {X : List Int} {most : Int} (h : okD z G T R X most = true) : okD z G T R.reverse X most = true := by
  unfold okD okP at h ⊢
  rw [Bool.and_eq_true, Bool.and_eq_true, Bool.and_eq_true, Bool.and_eq_true] at h
  obtain ⟨⟨a1, a2, a3, a4⟩, a5⟩ := h
  have a4' := a4
  unfold roks at a4'
  rw [Bool.and_eq_true, decide_eq_true_eq, List.all_eq_true] at a4'
  have : roks z R.reverse = true := roks_yes (by rw [List.length_reverse]; exact a4'.1) (fun j hj => by
    rw [List.length_reverse] at hj
    have := a4'.2 (R.length - 1 - j) (List.mem_range.2 (by omega))
    unfold rok at this ⊢
    rw [rev_cl R j hj, rev_cz R j 1 hj, rev_cz R j 2 hj]
    exact this)
  rw [Bool.and_eq_true, Bool.and_eq_true, Bool.and_eq_true, Bool.and_eq_true]
  exact ⟨⟨a1, a2, a3, this⟩, a5⟩

/-- the point behind so many moves -/
def rep (X : List Int) (L : Mo.Ls) : Nat → List Int
  | 0 => X
  | j + 1 => mv (rep X L j) (Mo.c0 L j).toNat (Mo.c1 L j)
theorem get_app (L M : Mo.Ls) (j : Nat) (h : j < L.length) : (L ++ M).getD j (0, 0, 0) = L.getD j (0, 0, 0) := by simp [List.getD_eq_getElem?_getD, List.getElem?_append_left h]
theorem rep_app (X : List Int) (L M : Mo.Ls) : ∀ j, j ≤ L.length → rep X (L ++ M) j = rep X L j
  | 0, _ => rfl
  | j + 1, h => by
    show mv (rep X (L ++ M) j) (Mo.c0 (L ++ M) j).toNat (Mo.c1 (L ++ M) j) = mv (rep X L j) (Mo.c0 L j).toNat (Mo.c1 L j)
    unfold Mo.c0 Mo.c1
    rw [rep_app X L M j (by omega), get_app L M j (by omega)]
/-- each move does what it tells -/
structure Tr (n : Nat) (G T : List Int) (R : Rw.Ls) (X : List Int) (s : St) : Prop where
  e : rep X s.2 s.2.length = s.1
  w : ∀ j, j ≤ s.2.length → Dp.Way n G T R (rep X s.2 j)
  m : ∀ j, j < s.2.length → ∃ i : Nat, i < n ∧ Mo.c0 s.2 j = (i : Int) ∧ -200001 ≤ Mo.c1 s.2 j ∧ Mo.c1 s.2 j ≤ 200001 ∧ Mo.c2 s.2 j = cost G T R (rep X s.2 (j + 1)) n ∧ cost G T R (rep X s.2 (j + 1)) n < cost G T R (rep X s.2 j) n
theorem Tr.st {X : List Int} {s : St} {most : Int} {i : Nat} (h : Tr n G T R X s) (O : Ok n G T R) (hi : i < n) : Tr n G T R X (st G T R n most i s) := by
  unfold Dp.st
  split
  · exact h
  · rename_i hn
    obtain ⟨Y, L⟩ := s
    have hz : bs G T R Y n i ≠ 0 := fun e => hn (.inl e)
    have he : rep X L L.length = Y := h.e
    have hw : Dp.Way n G T R Y := by have := h.w L.length (Nat.le_refl _); simp only at this; rw [he] at this; exact this
    have g0 : ∀ M : Int × Int × Int, Mo.c0 (L ++ [M]) L.length = M.1 := fun M => by simp [Mo.c0]
    have g1 : ∀ M : Int × Int × Int, Mo.c1 (L ++ [M]) L.length = M.2.1 := fun M => by simp [Mo.c1]
    have g2 : ∀ M : Int × Int × Int, Mo.c2 (L ++ [M]) L.length = M.2.2 := fun M => by simp [Mo.c2]
    have last : ∀ c, rep X (L ++ [((i : Int), bs G T R Y n i, c)]) (L.length + 1) = mv Y i (bs G T R Y n i) := fun c => by
      show mv (rep X (L ++ [_]) L.length) (Mo.c0 (L ++ [_]) L.length).toNat (Mo.c1 (L ++ [_]) L.length) = _
      rw [rep_app X L _ L.length (Nat.le_refl _), he, g0, g1]
      simp
    refine ⟨?_, fun j hj => ?_, fun j hj => ?_⟩
    · simp only [List.length_append, List.length_cons, List.length_nil]
      exact last _
    · simp only [List.length_append, List.length_cons, List.length_nil] at hj ⊢
      by_cases e : j = L.length + 1
      · subst e; rw [last]; exact hw.step O hi
      · rw [rep_app X L _ j (by omega)]; exact h.w j (by show j ≤ L.length; omega)
    · simp only [List.length_append, List.length_cons, List.length_nil] at hj ⊢
      by_cases e : j = L.length
      · subst e
        have bb := hw.bs_le O hi
        refine ⟨i, hi, g0 _, by rw [g1]; exact bb.1, by rw [g1]; exact bb.2, ?_, ?_⟩
        · rw [g2, last]
        · rw [last, rep_app X L _ L.length (Nat.le_refl _), he]
          exact bs_low O hw.len hi hz
      · obtain ⟨k, k1, k2, k3, k4, k5, k6⟩ := h.m j (by show j < L.length; omega)
        simp only at k2 k3 k4 k5 k6
        have e0 : ∀ M, Mo.c0 (L ++ [M]) j = Mo.c0 L j := fun M => by unfold Mo.c0; rw [get_app L _ j (by omega)]
        have e1 : ∀ M, Mo.c1 (L ++ [M]) j = Mo.c1 L j := fun M => by unfold Mo.c1; rw [get_app L _ j (by omega)]
        have e2 : ∀ M, Mo.c2 (L ++ [M]) j = Mo.c2 L j := fun M => by unfold Mo.c2; rw [get_app L _ j (by omega)]
        refine ⟨k, k1, by rw [e0]; exact k2, by rw [e1]; exact k3, by rw [e1]; exact k4, ?_, ?_⟩
        · rw [e2, rep_app X L _ (j + 1) (by omega)]; exact k5
        · rw [rep_app X L _ (j + 1) (by omega), rep_app X L _ j (by omega)]; exact k6
theorem Tr.upto {X : List Int} {s : St} {most : Int} (h : Tr n G T R X s) (O : Ok n G T R) : ∀ k, k ≤ n → Tr n G T R X (upto G T R n most k s)
  | 0, _ => h
  | k + 1, hk => (Tr.upto h O k (by omega)).st O (by omega)
theorem Tr.rnds {X : List Int} {s : St} {most : Int} (h : Tr n G T R X s) (O : Ok n G T R) : ∀ k, Tr n G T R X (rnds G T R n most k s)
  | 0 => h
  | k + 1 => (Tr.rnds h O k).upto O n (Nat.le_refl _)
theorem tr_ends {X : List Int} {e : St} {most : Int} (hX : Dp.Way n G T R X) (O : Ok n G T R) (h : Dp.Ends G T R n most (X, []) e) : Tr n G T R X e := by
  obtain ⟨m, h1, _⟩ := h
  have t0 : Tr n G T R X (X, []) := ⟨rfl, fun j hj => by have e : j = 0 := (by simpa using hj); rw [e]; exact hX, fun j hj => by simp at hj⟩
  rw [← h1]
  exact t0.rnds O m
theorem upto_zero {most : Int} {s : St} (hf : (s.2.length : Int) ≠ most) : ∀ k, (upto G T R n most k s = s) → ∀ i, i < k → bs G T R s.1 n i = 0
  | 0, _, i, hi => by omega
  | k + 1, h, i, hi => by
    have h' : st G T R n most k (upto G T R n most k s) = s := h
    have hk : upto G T R n most k s = s := by
      rcases upto_more (G := G) (T := T) (R := R) (n := n) most s k with e | e
      · exact e
      · rcases st_more (G := G) (T := T) (R := R) (n := n) most k (upto G T R n most k s) with e2 | e2
        · rw [e2] at h'; exact h'
        · rw [h'] at e2; omega
    by_cases e : i = k
    · subst e
      rw [hk] at h'
      unfold Dp.st at h'
      split at h'
      · rename_i hh
        rcases hh with hh | hh
        · exact hh
        · exact absurd hh hf
      · have := congrArg (fun q : St => q.2.length) h'
        simp at this
    · exact upto_zero hf k hk i (by omega)
theorem sq_le2 {a : Int} (h : a * a ≤ 30000000000) : -180000 ≤ a ∧ a ≤ 180000 := by
  by_cases h1 : 180000 < a
  · have := Int.mul_le_mul (show (180000 : Int) ≤ a by omega) (show (180000 : Int) ≤ a by omega) (by omega) (by omega)
    omega
  · by_cases h2 : a < -180000
    · have := Int.mul_le_mul (show (180000 : Int) ≤ -a by omega) (show (180000 : Int) ≤ -a by omega) (by omega) (by omega)
      rw [Int.neg_mul_neg] at this
      omega
    · omega
theorem near2 {X : List Int} (W : Dp.Way n G T R X) (O : Ok n G T R) (j : Nat) (hj : j < n) : -180500 ≤ X.getD j 0 ∧ X.getD j 0 ≤ 180500 := by
  have b := O.tb j (by have := O.nT; omega)
  have g := O.gb j (by have := O.nG; omega)
  have sqn : ∀ a : Int, 0 ≤ a * a := fun a => by
    by_cases h : 0 ≤ a
    · exact Int.mul_nonneg h h
    · exact Int.mul_nonneg_of_nonpos_of_nonpos (by omega) (by omega)
  have nn : ∀ j, j < n → 0 ≤ ctm G T X j := fun j hj => by
    have b := O.tb j (by have := O.nT; omega)
    unfold ctm
    exact Int.mul_nonneg (by omega) (sqn _)
  have a1 := sm_one nn hj
  have a2 : 0 ≤ sm R.length (crm R X n) := sm_nn fun k hk => by
    have w := O.wb k hk
    unfold crm
    exact Int.mul_nonneg (by omega) (sqn _)
  have lo := W.low
  unfold cost ct cr at lo
  unfold ctm at a1
  have a3 : (X.getD j 0 - G.getD j 0) * (X.getD j 0 - G.getD j 0) ≤ T.getD j 0 * ((X.getD j 0 - G.getD j 0) * (X.getD j 0 - G.getD j 0)) := by
    have := Int.mul_le_mul_of_nonneg_right (show (1 : Int) ≤ T.getD j 0 by omega) (sqn (X.getD j 0 - G.getD j 0))
    omega
  have a4 := sq_le2 (a := X.getD j 0 - G.getD j 0) (by unfold ctm at lo; omega)
  omega
theorem nums_of {X : List Int} {z lo hi : Int} (h : (X.length : Int) = z) (hb : ∀ j, j < X.length → lo ≤ X.getD j 0 ∧ X.getD j 0 ≤ hi) : nums X z lo hi = true := by
  unfold nums
  rw [Bool.and_eq_true, decide_eq_true_eq, List.all_eq_true]
  refine ⟨h, ?_⟩
  intro x hx
  obtain ⟨j, hj, rfl⟩ := List.getElem_of_mem hx
  have := hb j hj
  rw [List.getD_eq_getElem?_getD, List.getElem?_eq_getElem hj] at this
  exact (inn_iff _ _ _).2 this
theorem okc_way {z : Int} {X : List Int} (hz : z = (n : Int)) (hp : okP z G T R = true) (O : Ok n G T R) (W : Dp.Way n G T R X) : okC z G T R X = true := by
  unfold okC
  rw [hp, Bool.true_and]
  refine nums_of (by rw [W.len, hz]) (fun j hj => ?_)
  have := near2 W O j (by rw [← W.len]; exact hj)
  omega
theorem cv_way {z : Int} {X : List Int} (hz : z = (n : Int)) (hp : okP z G T R = true) (O : Ok n G T R) (W : Dp.Way n G T R X) : cv z G T R X = cost G T R X n := by
  rw [cv_yes (okc_way hz hp O W), show G.length = n by have := O.nG; omega]
theorem fin_cert {z : Int} {X : List Int} {most : Int} {e : St} (hz : z = (n : Int)) (hp : okP z G T R = true) (O : Ok n G T R) (W : Dp.Way n G T R e.1) (h : Dp.Ends G T R n most (X, []) e) (hf : (e.2.length : Int) ≠ most) : cert z G T R e.1 = true := by
  obtain ⟨m, _, h2⟩ := h
  have nG : G.length = n := by have := O.nG; omega
  refine cert_yes (okc_way hz hp O W) (fun i hi => ?_)
  have b0 := upto_zero hf n h2 i (by omega)
  have hb := bd_pos O (i := i) (by omega)
  have bz := bst_zero hb b0
  have step : ∀ t : Int, t = -1 ∨ t = 1 → bad z G T R e.1 i t = false := fun t ht => by
    unfold bad
    have : decide (cost G T R (mv e.1 i t) G.length < cost G T R e.1 G.length) = false := by
      rw [nG, cost_mv W.len (by omega : i < n)]
      rcases ht with rfl | rfl
      · simp; omega
      · simp; omega
    rw [this, Bool.and_false]
  exact ⟨step _ (.inl rfl), step _ (.inr rfl)⟩
end
end Go.Proofs.Ytaakiemmodncpaa.Df
