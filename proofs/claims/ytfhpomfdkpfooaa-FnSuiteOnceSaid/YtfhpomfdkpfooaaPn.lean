/- What events leave of a right run: plain. -/
import Derived.Test.YtfhpomfdkpfooaaIp
import Derived.Test.YtfhpomfdkpfooaaIr
import Derived.Test.YtfhpomfdkpfooaaIt
namespace Go.Proofs.Ytfhpomfdkpfooaa.Ty
open Go.Proofs.Ytfhpomfdkpfooaa.Lists Go.Proofs.Ytfhpomfdkpfooaa.Tm Go.Proofs.Ytfhpomfdkpfooaa.Rk Go.Proofs.Ytfhpomfdkpfooaa.Ru Go.Proofs.Ytfhpomfdkpfooaa.Al

theorem okR_iff {R : Tk.Ls} {X : List Int} {now : Int} {J : Jb.Ls} : okR R X now J = true ↔ So.okS R X = true ∧ (0 ≤ now ∧ now ≤ 1000000000000) ∧ J.length = R.length ∧ (∀ i, i < J.length → jk R J i = true) ∧ (∀ g : Nat, g < X.length → rn R J ((g : Int) + 1) J.length ≤ X.getD g 0) := by
  constructor
  · intro h
    unfold okR at h
    rw [Bool.and_eq_true, Bool.and_eq_true, Bool.and_eq_true, Bool.and_eq_true, inn_iff, decide_eq_true_eq] at h
    obtain ⟨⟨h1, h2, h3⟩, h4, h5⟩ := h
    have F := fit_of h1
    refine ⟨h1, h2, h3, fun i hi => ?_, fun g hg => ?_⟩
    · rw [← jok_jk R J i (F.most i (by omega)).1]
      exact all_at h4 i hi
    · have := all_at h5 g hg
      unfold lok at this
      exact of_decide_eq_true this
  · rintro ⟨h1, h2, h3, h4, h5⟩
    have F := fit_of h1
    unfold okR
    rw [Bool.and_eq_true, Bool.and_eq_true, Bool.and_eq_true, Bool.and_eq_true, inn_iff, decide_eq_true_eq]
    refine ⟨⟨h1, h2, h3⟩, all_yes fun i hi => ?_, all_yes fun g hg => ?_⟩
    · rw [jok_jk R J i (F.most i (by omega)).1]
      exact h4 i hi
    · unfold lok
      exact decide_eq_true (h5 g hg)
theorem fr_mono {R : Tk.Ls} {J J' : Jb.Ls} (hd : ∀ i, hw J i = 2 → hw J' i = 2) {i : Nat} (h : fr R J i = true) : fr R J' i = true := by
  unfold fr at *
  refine all_yes fun k hk => ?_
  have := all_at h k hk
  unfold dn at *
  rw [beq_iff_eq] at this ⊢
  exact hd _ this
theorem jk_run {R : Tk.Ls} {J : Jb.Ls} {i : Nat} (h : jk R J i = true) (h1 : hw J i = 1) : 1 ≤ tr J i ∧ tr J i ≤ Tk.cz R i 3 ∧ fr R J i = true := by
  unfold jk at h
  rw [if_neg (by omega), if_pos (Or.inl h1), Bool.and_eq_true, inn_iff] at h
  exact ⟨h.1.1, h.1.2, h.2⟩
theorem jk_wait {R : Tk.Ls} {J : Jb.Ls} {i : Nat} (h : jk R J i = true) (h1 : hw J i = 0) : 0 ≤ tr J i ∧ tr J i < Tk.cz R i 3 := by
  unfold jk at h
  rw [if_pos h1, inn_iff] at h
  omega
theorem ok_step {R : Tk.Ls} {X : List Int} {now : Int} {J J' : Jb.Ls} (h : okR R X now J = true) (hl : J'.length = J.length) (hd : ∀ i, hw J i = 2 → hw J' i = 2)
    (hj : ∀ i, i < J.length → (hw J' i = hw J i ∧ tr J' i = tr J i) ∨ (hw J' i = 0 ∧ 0 ≤ tr J' i ∧ tr J' i < Tk.cz R i 3) ∨ ((hw J' i = 1 ∨ hw J' i = 2) ∧ 1 ≤ tr J' i ∧ tr J' i ≤ Tk.cz R i 3 ∧ fr R J i = true) ∨ (hw J' i = 3 ∧ tr J' i = Tk.cz R i 3 ∧ fr R J i = true))
    (hr : ∀ g : Nat, g < X.length → rn R J' ((g : Int) + 1) J.length ≤ X.getD g 0) : okR R X now J' = true := by
  rw [okR_iff] at h ⊢
  obtain ⟨h1, h2, h3, h4, h5⟩ := h
  refine ⟨h1, h2, by omega, fun i hi => ?_, fun g hg => by rw [hl]; exact hr g hg⟩
  have hi' : i < J.length := by omega
  have q := h4 i hi'
  unfold jk at q ⊢
  rcases hj i hi' with ⟨a, b⟩ | ⟨a, b, c⟩ | ⟨a, b, c, d⟩ | ⟨a, b, d⟩
  · rw [a, b]
    by_cases e0 : hw J i = 0
    · rw [if_pos e0] at q ⊢; exact q
    · rw [if_neg e0] at q ⊢
      by_cases e1 : hw J i = 1 ∨ hw J i = 2
      · rw [if_pos e1, Bool.and_eq_true] at q ⊢
        exact ⟨q.1, fr_mono hd q.2⟩
      · rw [if_neg e1] at q ⊢
        by_cases e3 : hw J i = 3
        · rw [if_pos e3, Bool.and_eq_true] at q ⊢
          exact ⟨q.1, fr_mono hd q.2⟩
        · rw [if_neg e3] at q; cases q
  · rw [if_pos a, inn_iff]; omega
  · rw [if_neg (by omega), if_pos a, Bool.and_eq_true, inn_iff]
    exact ⟨⟨b, c⟩, fr_mono hd d⟩
  · rw [if_neg (by omega), if_neg (by omega), if_pos a, Bool.and_eq_true]
    exact ⟨by simpa using b, fr_mono hd d⟩
theorem rn_le {R : Tk.Ls} {J J' : Jb.Ls} {g : Int} : ∀ n, (∀ i, i < n → hw J' i = 1 → hw J i = 1) → rn R J' g n ≤ rn R J g n
  | 0, _ => by simp [rn]
  | n + 1, h => by
    have ih := rn_le (R := R) (J := J) (J' := J') (g := g) n (fun i hi => h i (by omega))
    rw [rn_next, rn_next]
    by_cases c : (hw J' n == 1 && Tk.cz R n 1 == g) = true
    · have c2 : (hw J n == 1 && Tk.cz R n 1 == g) = true := by
        rw [Bool.and_eq_true] at c ⊢
        have := h n (by omega) (by simpa using c.1)
        exact ⟨by simpa using this, c.2⟩
      rw [if_pos c, if_pos c2]
      omega
    · rw [if_neg c]
      split <;> omega
theorem rn_none {R : Tk.Ls} {J : Jb.Ls} {g : Int} : ∀ n, (∀ i, i < n → hw J i ≠ 1) → rn R J g n = 0
  | 0, _ => rfl
  | n + 1, h => by
    rw [rn_next, if_neg, rn_none n (fun i hi => h i (by omega))]
    intro c
    rw [Bool.and_eq_true] at c
    exact h n (by omega) (by simpa using c.1)
/-- a report -/
theorem rps_ok {R : Tk.Ls} {X : List Int} {now : Int} {J : Jb.Ls} (h : okR R X now J = true) (tk : Int) (ok : Bool) : okR R X now (rps R J tk ok) = true := by
  unfold rps
  by_cases hc : 1 ≤ tk ∧ tk ≤ (J.length : Int) ∧ hw J (tk - 1).toNat = 1
  · rw [if_pos hc]
    obtain ⟨hc1, hc2, hc3⟩ := hc
    obtain ⟨i, hi⟩ : ∃ i, i = (tk - 1).toNat := ⟨_, rfl⟩
    rw [← hi] at hc3 ⊢
    have hil : i < J.length := by omega
    obtain ⟨h1, h2, h3, h4, h5⟩ := okR_iff.1 h
    obtain ⟨t1, t2, t3⟩ := jk_run (h4 i hil) hc3
    clear hi hc1 hc2
    refine ok_step h (js_len _ _ _ _) (fun k hk => ?_) (fun k hk => ?_) (fun g hg => ?_)
    · by_cases e : k = i
      · subst e; omega
      · exact (js_off e).1.trans hk
    · by_cases e : k = i
      · subst e
        obtain ⟨a, b⟩ := js_hit (J := J) (i := k) (s := ez ok (tr J k) (Tk.cz R k 3)) (t := tr J k) hil
        have a' : hw (js J k (ez ok (tr J k) (Tk.cz R k 3)) (tr J k)) k = ez ok (tr J k) (Tk.cz R k 3) := a
        have b' : tr (js J k (ez ok (tr J k) (Tk.cz R k 3)) (tr J k)) k = tr J k := b
        rw [a', b']
        unfold ez
        cases ok
        · rw [if_neg (by simp)]
          by_cases em : tr J k = Tk.cz R k 3
          · rw [if_pos em]; exact Or.inr (Or.inr (Or.inr ⟨rfl, em, t3⟩))
          · rw [if_neg em]; exact Or.inr (Or.inl ⟨rfl, by omega, by omega⟩)
        · rw [if_pos rfl]; exact Or.inr (Or.inr (Or.inl ⟨Or.inr rfl, t1, t2, t3⟩))
      · exact Or.inl (js_off e)
    · refine Int.le_trans (rn_le _ fun k hk e1 => ?_) (h5 g hg)
      by_cases e : k = i
      · rw [e]; exact hc3
      · exact (js_off e).1.symm.trans e1
  · rw [if_neg hc]; exact h
/-- a crash -/
theorem crs_ok {R : Tk.Ls} {X : List Int} {now : Int} {J : Jb.Ls} (h : okR R X now J = true) : okR R X now (crs J J.length) = true := by
  obtain ⟨h1, h2, h3, h4, h5⟩ := okR_iff.1 h
  refine ok_step h (crs_len _ _) (fun k hk => ?_) (fun k hk => ?_) (fun g hg => ?_)
  · by_cases hkl : k < J.length
    · have := (crs_at J J.length k hkl).1
      show Jb.c0 _ _ = _
      rw [this, if_neg (by omega)]; exact hk
    · have e : hw J k = 0 := by unfold hw Jb.c0; simp [List.getD_eq_getElem?_getD, List.getElem?_eq_none (Nat.le_of_not_lt hkl)]
      omega
  · obtain ⟨a, b⟩ := crs_at J J.length k hk
    have a' : hw (crs J J.length) k = if k < J.length ∧ hw J k = 1 then 0 else hw J k := a
    have b' : tr (crs J J.length) k = if k < J.length ∧ hw J k = 1 then tr J k - 1 else tr J k := b
    by_cases e : hw J k = 1
    · rw [if_pos ⟨hk, e⟩] at a' b'
      obtain ⟨t1, t2, t3⟩ := jk_run (h4 k hk) e
      exact Or.inr (Or.inl ⟨a', by omega, by omega⟩)
    · rw [if_neg (fun q => e q.2)] at a' b'
      exact Or.inl ⟨a', b'⟩
  · refine Int.le_trans (rn_le _ fun k hk e1 => ?_) (h5 g hg)
    have a := (crs_at J J.length k hk).1
    have e1' : Jb.c0 (crs J J.length) k = 1 := e1
    by_cases e : hw J k = 1
    · exact e
    · rw [a, if_neg (fun q => e q.2)] at e1'; exact e1'
/-- tasks that start -/
theorem jn_ok {R : Tk.Ls} {X : List Int} {now : Int} {J : Jb.Ls} (h : okR R X now J = true) : ∀ k, k ≤ R.length → okR R X now (jn R X J k) = true
  | 0, _ => h
  | k + 1, hk => by
    have ih := jn_ok h k (by omega)
    cases hc : cn R X (jn R X J k) k
    · rw [(jn_no hc).1]; exact ih
    · rw [(jn_yes hc).1]
      generalize jn R X J k = C at *
      obtain ⟨h1, h2, h3, h4, h5⟩ := okR_iff.1 ih
      have F := fit_of h1
      have hkC : k < C.length := by omega
      unfold cn at hc
      rw [Bool.and_eq_true, Bool.and_eq_true, beq_iff_eq, decide_eq_true_eq] at hc
      obtain ⟨c1, c2, c3⟩ := hc
      have c1' : hw C k = 0 := c1
      obtain ⟨t1, t2⟩ := jk_wait (h4 k hkC) c1'
      have G := F.grp k (by omega)
      refine ok_step ih (js_len _ _ _ _) (fun j hj => ?_) (fun j hj => ?_) (fun g hg => ?_)
      · by_cases e : j = k
        · subst e; omega
        · exact (js_off e).1.trans hj
      · by_cases e : j = k
        · subst e
          obtain ⟨a, b⟩ := js_hit (J := C) (i := j) (s := 1) (t := tr C j + 1) hkC
          exact Or.inr (Or.inr (Or.inl ⟨Or.inl a, by show 1 ≤ Jb.c1 _ _; rw [b]; omega, by show Jb.c1 _ _ ≤ _; rw [b]; omega, c2⟩))
        · exact Or.inl (js_off e)
      · rw [rn_js hkC c1']
        have h5g := h5 g hg
        by_cases q : k < C.length ∧ Tk.cz R k 1 = (g : Int) + 1
        · rw [if_pos q]
          rw [q.2, show ((g : Int) + 1 - 1).toNat = g by omega] at c3
          omega
        · rw [if_neg q]; omega
/-- the clock -/
theorem nw_ok {R : Tk.Ls} {X : List Int} {now : Int} {J : Jb.Ls} (h : okR R X now J = true) {tn : Int} (ht : 0 ≤ tn) : okR R X (nw now tn) J = true := by
  rw [okR_iff] at h ⊢
  exact ⟨h.1, (nw_bd h.2.1 ht).2, h.2.2⟩
/-- a new run -/
theorem new_ok {R : Tk.Ls} {X : List Int} (h : So.okS R X = true) : okR R X 0 (List.replicate R.length (0, 0)) = true := by
  have F := fit_of h
  have z : ∀ i, Jb.c0 (List.replicate R.length (0, 0)) i = 0 ∧ Jb.c1 (List.replicate R.length (0, 0)) i = 0 := fun i => by
    unfold Jb.c0 Jb.c1
    by_cases hi : i < R.length
    · simp [List.getD_eq_getElem?_getD, hi]
    · simp [List.getD_eq_getElem?_getD, hi]
  rw [okR_iff]
  refine ⟨h, by omega, by simp, fun i hi => ?_, fun g hg => ?_⟩
  · unfold jk
    have hi' : i < R.length := by simpa using hi
    have := F.most i hi'
    rw [if_pos (z i).1, inn_iff]
    have e : tr (List.replicate R.length (0, 0)) i = 0 := (z i).2
    omega
  · rw [rn_none _ (fun i _ => by have : hw (List.replicate R.length (0, 0)) i = 0 := (z i).1; omega)]
    have := F.lim g hg
    omega
/-- two reports in either order -/
theorem rps_swap {R : Tk.Ls} {J : Jb.Ls} {a b : Nat} (hab : a ≠ b) (ha : a < J.length) (hb : b < J.length) (h1 : hw J a = 1) (h2 : hw J b = 1) (p q : Bool) :
    rps R (rps R J ((a : Int) + 1) p) ((b : Int) + 1) q = rps R (rps R J ((b : Int) + 1) q) ((a : Int) + 1) p ∧ hw (rps R J ((a : Int) + 1) p) b = 1 ∧ hw (rps R J ((b : Int) + 1) q) a = 1 := by
  have e : ∀ (k : Nat) (C : Jb.Ls) (u : Bool), k < C.length → hw C k = 1 → rps R C ((k : Int) + 1) u = js C k (ez u (tr C k) (Tk.cz R k 3)) (tr C k) := fun k C u hk h => by
    unfold rps
    rw [show ((k : Int) + 1 - 1).toNat = k by omega, if_pos ⟨by omega, by omega, h⟩]
  have o1 : ∀ s t, hw (js J a s t) b = hw J b ∧ tr (js J a s t) b = tr J b := fun s t => js_off (J := J) (s := s) (t := t) (Ne.symm hab)
  have o2 : ∀ s t, hw (js J b s t) a = hw J a ∧ tr (js J b s t) a = tr J a := fun s t => js_off (J := J) (s := s) (t := t) hab
  rw [e a J p ha h1, e b J q hb h2]
  refine ⟨?_, (o1 _ _).1.trans h2, (o2 _ _).1.trans h1⟩
  rw [e b _ q (by rw [js_len]; exact hb) ((o1 _ _).1.trans h2), e a _ p (by rw [js_len]; exact ha) ((o2 _ _).1.trans h1), (o1 _ _).2, (o2 _ _).2]
  unfold js
  exact List.set_comm _ _ hab
/-- a time cut in two -/
theorem nw_cut {now n a : Int} (h : 0 ≤ now ∧ now ≤ 1000000000000) (h0 : 0 ≤ a) (h1 : a ≤ n) : nw (nw now a) (n - a) = nw now n ∧ now ≤ nw now a ∧ nw now a ≤ nw now n := by
  unfold nw
  repeat' split
  all_goals omega
def ct (x : Int) (L : List Int) : Nat := L.count x
theorem lts_ct {R : Tk.Ls} {J : Jb.Ls} {a b c : Int} (h1 : a ≤ b) (h2 : b ≤ c) (x : Int) : ∀ k, ct x (lts R J a b k) + ct x (lts R J b c k) = ct x (lts R J a c k) ∧ (lts R J a b k).length + (lts R J b c k).length = (lts R J a c k).length
  | 0 => by simp [lts, ct]
  | k + 1 => by
    have ih := lts_ct (R := R) (J := J) h1 h2 x k
    have s : isL R J a c k = (isL R J a b k || isL R J b c k) ∧ ¬ (isL R J a b k = true ∧ isL R J b c k = true) := by
      unfold isL inn
      generalize Tk.cz R k 2 = z
      cases decide (0 < z)
      · simp
      · cases hw J k != 2
        · simp
        · constructor
          · rw [Bool.eq_iff_iff]; simp; omega
          · simp; omega
    unfold lts
    cases u : isL R J a b k <;> cases v : isL R J b c k <;> rw [u, v] at s <;> rw [s.1] <;> simp [ct, List.count_append] at * <;> omega
theorem lts_lt {R : Tk.Ls} {J : Jb.Ls} {a b : Int} : ∀ k, (∀ x ∈ lts R J a b k, x ≤ (k : Int)) ∧ (lts R J a b k).Nodup
  | 0 => by simp [lts]
  | k + 1 => by
    have ih := lts_lt (R := R) (J := J) (a := a) (b := b) k
    unfold lts
    split
    · refine ⟨fun x hx => ?_, ?_⟩
      · rw [List.mem_append] at hx
        rcases hx with hx | hx
        · have := ih.1 x hx; omega
        · simp at hx; omega
      · rw [List.nodup_append]
        refine ⟨ih.2, by simp, fun x hx y hy e => ?_⟩
        simp at hy
        have := ih.1 x hx
        omega
    · exact ⟨fun x hx => by have := ih.1 x hx; omega, ih.2⟩
theorem ct_one {x : Int} : ∀ {L : List Int}, L.Nodup → x ∈ L → L.count x = 1
  | [], _, h => by cases h
  | y :: L, hn, h => by
    rw [List.nodup_cons] at hn
    rw [List.count_cons]
    by_cases e : y = x
    · subst e
      rw [List.count_eq_zero.2 hn.1]
      simp
    · rw [if_neg (by simpa using e), ct_one hn.2 (by rcases List.mem_cons.1 h with q | q; exact absurd q.symm e; exact q)]
/-- what is told is told once, before or behind -/
theorem lts_once {R : Tk.Ls} {J : Jb.Ls} {a b c : Int} (h1 : a ≤ b) (h2 : b ≤ c) (k i : Nat) (hi : i < (lts R J a c k).length) : ct ((lts R J a c k).getD i 0) (lts R J a b k) + ct ((lts R J a c k).getD i 0) (lts R J b c k) = 1 := by
  rw [(lts_ct h1 h2 _ k).1]
  unfold ct
  refine ct_one (lts_lt k).2 ?_
  rw [List.getD_eq_getElem?_getD, List.getElem?_eq_getElem hi]
  exact List.getElem_mem hi
end Go.Proofs.Ytfhpomfdkpfooaa.Ty
