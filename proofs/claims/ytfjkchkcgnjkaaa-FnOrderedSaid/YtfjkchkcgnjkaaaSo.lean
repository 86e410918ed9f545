/- Sorting in place, plainly: what keeps a list's numbers, rotations, merges of two sorted parts, blocks. -/
import Derived.Test.YtfjkchkcgnjkaaaFlt
namespace Go.Proofs.Ytfjkchkcgnjkaaa.St

structure PM (lo hi : Nat) (L M : List Nat) : Prop where
  len : M.length = L.length
  perm : M.Perm L
  out : ∀ i, ¬ (lo ≤ i ∧ i < hi) → M.getD i 0 = L.getD i 0
  inn : ∀ i, lo ≤ i → i < hi → ∃ j, lo ≤ j ∧ j < hi ∧ M.getD i 0 = L.getD j 0
theorem PM.refl (lo hi : Nat) (L : List Nat) : PM lo hi L L := ⟨rfl, List.Perm.refl _, fun _ _ => rfl, fun i h1 h2 => ⟨i, h1, h2, rfl⟩⟩
theorem PM.trans {lo hi : Nat} {L M N : List Nat} (h1 : PM lo hi L M) (h2 : PM lo hi M N) : PM lo hi L N :=
  ⟨h2.len.trans h1.len, h2.perm.trans h1.perm, fun i h => (h2.out i h).trans (h1.out i h), fun i a b => by
    obtain ⟨j, c, d, e⟩ := h2.inn i a b
    obtain ⟨k, f, g, q⟩ := h1.inn j c d
    exact ⟨k, f, g, e.trans q⟩⟩
theorem PM.mono {lo hi lo' hi' : Nat} {L M : List Nat} (h : PM lo hi L M) (a : lo' ≤ lo) (b : hi ≤ hi') : PM lo' hi' L M :=
  ⟨h.len, h.perm, fun i hi => h.out i (by omega), fun i c d => by
    by_cases e : lo ≤ i ∧ i < hi
    · obtain ⟨j, f, g, q⟩ := h.inn i e.1 e.2
      exact ⟨j, by omega, by omega, q⟩
    · exact ⟨i, c, d, h.out i e⟩⟩
def swp (L : List Nat) (i j : Nat) : List Nat := (L.set i (L.getD j 0)).set j (L.getD i 0)
theorem swp_len (L : List Nat) (i j : Nat) : (swp L i j).length = L.length := by simp [swp]
theorem swp_get {L : List Nat} {i j : Nat} (hi : i < L.length) (hj : j < L.length) (x : Nat) : (swp L i j).getD x 0 = if x = j then L.getD i 0 else if x = i then L.getD j 0 else L.getD x 0 := by
  unfold swp
  simp only [List.getD_eq_getElem?_getD, List.getElem?_set, List.length_set]
  by_cases h1 : x = j
  · subst h1; simp [hj]
  · rw [if_neg (fun e => h1 e.symm), if_neg h1]
    by_cases h2 : x = i
    · subst h2; simp [hi]
    · rw [if_neg (fun e => h2 e.symm), if_neg h2]
theorem swp_pm {L : List Nat} {i j lo hi : Nat} (a : lo ≤ i) (b : i < hi) (c : lo ≤ j) (d : j < hi) (h : hi ≤ L.length) : PM lo hi L (swp L i j) := by
  have g := swp_get (L := L) (i := i) (j := j) (by omega) (by omega)
  refine ⟨swp_len L i j, ?_, fun x hx => ?_, fun x h1 h2 => ?_⟩
  · have e1 : L.getD i 0 = L[i]'(by omega) := by simp [List.getD_eq_getElem?_getD, show i < L.length by omega]
    have e2 : L.getD j 0 = L[j]'(by omega) := by simp [List.getD_eq_getElem?_getD, show j < L.length by omega]
    unfold swp
    rw [e1, e2]
    exact List.set_set_perm (by omega) (by omega)
  · rw [g, if_neg (by omega), if_neg (by omega)]
  · rw [g]
    by_cases e1 : x = j
    · rw [if_pos e1]; exact ⟨i, a, b, rfl⟩
    · rw [if_neg e1]
      by_cases e2 : x = i
      · rw [if_pos e2]; exact ⟨j, c, d, rfl⟩
      · rw [if_neg e2]; exact ⟨x, h1, h2, rfl⟩
/- sorted parts -/
def Srt (pl : Nat → Nat) (L : List Nat) (lo hi : Nat) : Prop := ∀ x y, lo ≤ x → x ≤ y → y < hi → pl (L.getD x 0) ≤ pl (L.getD y 0)
variable {pl : Nat → Nat}
theorem Srt.keep {L M : List Nat} {lo hi : Nat} (h : Srt pl L lo hi) (e : ∀ x, lo ≤ x → x < hi → M.getD x 0 = L.getD x 0) : Srt pl M lo hi := fun x y a b c => by
  rw [e x a (by omega), e y (by omega) c]; exact h x y a b c
theorem Srt.part {L : List Nat} {lo hi lo' hi' : Nat} (h : Srt pl L lo hi) (a : lo ≤ lo') (b : hi' ≤ hi) : Srt pl L lo' hi' := fun x y c d e => h x y (by omega) d (by omega)
theorem Srt.small {L : List Nat} {lo hi : Nat} (h : hi ≤ lo + 1) : Srt pl L lo hi := fun x y a b c => by
  have : x = y := by omega
  subst this; exact Nat.le_refl _
theorem Srt.off {L M : List Nat} {lo hi a b : Nat} (h : Srt pl L lo hi) (p : PM a b L M) (d : hi ≤ a ∨ b ≤ lo) : Srt pl M lo hi := h.keep fun x h1 h2 => p.out x (by omega)
/- insertion -/
def Ins (pl : Nat → Nat) (C : List Nat) (a i j : Nat) : Prop := ∀ x y, a ≤ x → x ≤ y → y ≤ i → y ≠ j → pl (C.getD x 0) ≤ pl (C.getD y 0)
theorem Ins.start {C : List Nat} {a i : Nat} (h : Srt pl C a i) : Ins pl C a i i := fun x y b c d e => h x y b c (by omega)
theorem Ins.step {C : List Nat} {a i j : Nat} (h : Ins pl C a i j) (ha : a < j) (hi : i < C.length) (hj : j ≤ i) (q : pl (C.getD j 0) < pl (C.getD (j - 1) 0)) : Ins pl (swp C j (j - 1)) a i (j - 1) := by
  intro x y b c d e
  have g := swp_get (L := C) (i := j) (j := j - 1) (by omega) (by omega)
  rw [g, g, if_neg e]
  by_cases ey : y = j
  · subst ey
    rw [if_pos rfl]
    by_cases ex : x = y - 1
    · rw [if_pos ex]; omega
    · rw [if_neg ex]
      by_cases ex2 : x = y
      · rw [if_pos ex2]; exact Nat.le_refl _
      · rw [if_neg ex2]; exact h x (y - 1) b (by omega) (by omega) (by omega)
  · rw [if_neg ey]
    by_cases ex : x = j - 1
    · rw [if_pos ex]; exact h j y (by omega) (by omega) d ey
    · rw [if_neg ex]
      by_cases ex2 : x = j
      · rw [if_pos ex2]; exact h (j - 1) y (by omega) (by omega) d ey
      · rw [if_neg ex2]; exact h x y b c d ey
theorem Ins.done {C : List Nat} {a i j : Nat} (h : Ins pl C a i j) (q : j ≤ a ∨ ¬ pl (C.getD j 0) < pl (C.getD (j - 1) 0)) : Srt pl C a (i + 1) := by
  intro x y b c d
  by_cases e : y = j
  · subst e
    rcases Nat.lt_or_ge a y with ha | ha
    · rcases q with q | q
      · omega
      · by_cases ex : x = y
        · subst ex; exact Nat.le_refl _
        · have := h x (y - 1) b (by omega) (by omega) (by omega)
          omega
    · have : x = y := by omega
      subst this; exact Nat.le_refl _
  · exact h x y b c (by omega) e
/- swapped ranges, rotations -/
def swf (L : List Nat) (a b n x : Nat) : Nat := if a ≤ x ∧ x < a + n then L.getD (b + (x - a)) 0 else if b ≤ x ∧ x < b + n then L.getD (a + (x - b)) 0 else L.getD x 0
theorem swf_zero (L : List Nat) (a b x : Nat) : L.getD x 0 = swf L a b 0 x := by
  unfold swf
  rw [if_neg (by omega), if_neg (by omega)]
theorem swf_step {L M : List Nat} {a b k : Nat} (h : ∀ x, M.getD x 0 = swf L a b k x) (hab : a + k < b) (hl : b + k < M.length) (x : Nat) : (swp M (a + k) (b + k)).getD x 0 = swf L a b (k + 1) x := by
  rw [swp_get (by omega) hl, h, h, h]
  by_cases e1 : x = b + k
  · subst e1
    rw [if_pos rfl]
    unfold swf
    rw [if_neg (by omega), if_neg (by omega), if_neg (by omega), if_pos (by omega)]
    congr 1; omega
  · rw [if_neg e1]
    by_cases e2 : x = a + k
    · subst e2
      rw [if_pos rfl]
      unfold swf
      rw [if_neg (by omega), if_neg (by omega), if_pos (by omega)]
      congr 1; omega
    · rw [if_neg e2]
      unfold swf
      by_cases c1 : a ≤ x ∧ x < a + k
      · rw [if_pos c1, if_pos (by omega)]
      · rw [if_neg c1, if_neg (show ¬ (a ≤ x ∧ x < a + (k + 1)) by omega)]
        by_cases c2 : b ≤ x ∧ x < b + k
        · rw [if_pos c2, if_pos (by omega)]
        · rw [if_neg c2, if_neg (by omega)]
def rof (L : List Nat) (lo m hi x : Nat) : Nat := if lo ≤ x ∧ x < lo + (hi - m) then L.getD (m + (x - lo)) 0 else if lo + (hi - m) ≤ x ∧ x < hi then L.getD (x - (hi - m)) 0 else L.getD x 0
theorem rof_gt {C D : List Nat} {m i j : Nat} (h : ∀ x, D.getD x 0 = swf C (m - i) m j x) (hj : j < i) (hi : i ≤ m) (x : Nat) : rof D (m - (i - j)) m (m + j) x = rof C (m - i) m (m + j) x := by
  unfold rof
  rw [h, h, h]
  unfold swf
  by_cases c1 : m - i ≤ x ∧ x < m - i + (m + j - m)
  · rw [if_pos c1, if_neg (by omega), if_neg (by omega), if_pos (by omega)]
  · rw [if_neg c1]
    by_cases c2 : m - i + (m + j - m) ≤ x ∧ x < m + j
    · rw [if_pos c2]
      by_cases c3 : m - (i - j) ≤ x ∧ x < m - (i - j) + (m + j - m)
      · rw [if_pos c3, if_neg (by omega), if_pos (by omega)]
        congr 1; omega
      · rw [if_neg c3, if_pos (by omega), if_neg (by omega), if_neg (by omega)]
    · rw [if_neg c2, if_neg (by omega), if_neg (by omega), if_neg (by omega), if_neg (by omega)]
theorem rof_lt {C D : List Nat} {m i j : Nat} (h : ∀ x, D.getD x 0 = swf C (m - i) (m + j - i) i x) (hj : i < j) (hi : i ≤ m) (x : Nat) : rof D (m - i) m (m + (j - i)) x = rof C (m - i) m (m + j) x := by
  unfold rof
  rw [h, h, h]
  unfold swf
  by_cases c1 : m - i ≤ x ∧ x < m - i + (m + j - m)
  · rw [if_pos c1]
    by_cases c3 : m - i ≤ x ∧ x < m - i + (m + (j - i) - m)
    · rw [if_pos c3, if_neg (by omega), if_neg (by omega)]
    · rw [if_neg c3]
      by_cases c4 : m - i + (m + (j - i) - m) ≤ x ∧ x < m + (j - i)
      · rw [if_pos c4, if_pos (by omega)]
        congr 1; omega
      · omega
  · rw [if_neg c1]
    by_cases c2 : m - i + (m + j - m) ≤ x ∧ x < m + j
    · rw [if_pos c2, if_neg (by omega), if_neg (by omega), if_neg (by omega), if_pos (by omega)]
      congr 1; omega
    · rw [if_neg c2, if_neg (by omega), if_neg (by omega), if_neg (by omega), if_neg (by omega)]
theorem rof_eq {C : List Nat} {m i : Nat} (hi : i ≤ m) (x : Nat) : swf C (m - i) m i x = rof C (m - i) m (m + i) x := by
  unfold rof swf
  by_cases c1 : m - i ≤ x ∧ x < m - i + i
  · rw [if_pos c1, if_pos (by omega)]
  · rw [if_neg c1]
    by_cases c2 : m ≤ x ∧ x < m + i
    · rw [if_pos c2, if_neg (by omega), if_pos (by omega)]
      congr 1; omega
    · rw [if_neg c2, if_neg (by omega), if_neg (by omega)]
theorem rof_id {L : List Nat} {s m e : Nat} (h : s = m ∨ m = e) (h1 : s ≤ m) (h2 : m ≤ e) (x : Nat) : L.getD x 0 = rof L s m e x := by
  unfold rof
  by_cases c1 : s ≤ x ∧ x < s + (e - m)
  · rw [if_pos c1]; congr 1; omega
  · rw [if_neg c1]
    by_cases c2 : s + (e - m) ≤ x ∧ x < e
    · rw [if_pos c2]; congr 1; omega
    · rw [if_neg c2]
/- one number moved into its place -/
def shu (L : List Nat) (a k x : Nat) : Nat := if a ≤ x ∧ x < k then L.getD (x + 1) 0 else if x = k then L.getD a 0 else L.getD x 0
theorem shu_zero (L : List Nat) (a x : Nat) : L.getD x 0 = shu L a a x := by
  unfold shu
  rw [if_neg (by omega)]
  by_cases e : x = a
  · rw [if_pos e, e]
  · rw [if_neg e]
theorem shu_step {L M : List Nat} {a k : Nat} (h : ∀ x, M.getD x 0 = shu L a k x) (ha : a ≤ k) (hl : k + 1 < M.length) (x : Nat) : (swp M k (k + 1)).getD x 0 = shu L a (k + 1) x := by
  rw [swp_get (by omega) hl, h, h, h]
  unfold shu
  by_cases e1 : x = k + 1
  · rw [if_pos e1, if_neg (by omega), if_pos rfl, if_neg (by omega), if_pos e1]
  · rw [if_neg e1]
    by_cases e2 : x = k
    · rw [if_pos e2, if_neg (by omega), if_neg (by omega), if_pos (by omega), e2]
    · rw [if_neg e2]
      by_cases c : a ≤ x ∧ x < k
      · rw [if_pos c, if_pos (by omega)]
      · rw [if_neg c, if_neg e2, if_neg (by omega), if_neg e1]
theorem shu_srt {L M : List Nat} {a i b : Nat} (h : ∀ x, M.getD x 0 = shu L a (i - 1) x) (s : Srt pl L (a + 1) b) (h1 : a + 1 ≤ i) (h2 : i ≤ b)
    (q1 : i = a + 1 ∨ pl (L.getD (i - 1) 0) < pl (L.getD a 0)) (q2 : i = b ∨ ¬ pl (L.getD i 0) < pl (L.getD a 0)) : Srt pl M a b := by
  intro x y c d e
  rw [h, h]
  unfold shu
  by_cases x1 : a ≤ x ∧ x < i - 1
  · rw [if_pos x1]
    by_cases y1 : a ≤ y ∧ y < i - 1
    · rw [if_pos y1]; exact s _ _ (by omega) (by omega) (by omega)
    · rw [if_neg y1]
      by_cases y2 : y = i - 1
      · rw [if_pos y2]
        have := s (x + 1) (i - 1) (by omega) (by omega) (by omega)
        omega
      · rw [if_neg y2]; exact s _ _ (by omega) (by omega) (by omega)
  · rw [if_neg x1, if_neg (show ¬ (a ≤ y ∧ y < i - 1) by omega)]
    by_cases x2 : x = i - 1
    · rw [if_pos x2]
      by_cases y2 : y = i - 1
      · rw [if_pos y2]; exact Nat.le_refl _
      · rw [if_neg y2]
        have := s i y (by omega) (by omega) (by omega)
        omega
    · rw [if_neg x2, if_neg (by omega)]; exact s _ _ (by omega) (by omega) (by omega)
def shd (L : List Nat) (m k x : Nat) : Nat := if k < x ∧ x ≤ m then L.getD (x - 1) 0 else if x = k then L.getD m 0 else L.getD x 0
theorem shd_zero (L : List Nat) (m x : Nat) : L.getD x 0 = shd L m m x := by
  unfold shd
  rw [if_neg (by omega)]
  by_cases e : x = m
  · rw [if_pos e, e]
  · rw [if_neg e]
theorem shd_step {L M : List Nat} {m k : Nat} (h : ∀ x, M.getD x 0 = shd L m k x) (h0 : 0 < k) (hk : k ≤ m) (hl : m < M.length) (x : Nat) : (swp M k (k - 1)).getD x 0 = shd L m (k - 1) x := by
  rw [swp_get (by omega) (by omega), h, h, h]
  unfold shd
  by_cases e1 : x = k - 1
  · rw [if_pos e1, if_neg (by omega), if_pos rfl, if_neg (by omega), if_pos e1]
  · rw [if_neg e1]
    by_cases e2 : x = k
    · rw [if_pos e2, if_neg (by omega), if_neg (by omega), if_pos (by omega), e2]
    · rw [if_neg e2]
      by_cases c : k < x ∧ x ≤ m
      · rw [if_pos c, if_pos (by omega)]
      · rw [if_neg c, if_neg e2, if_neg (by omega), if_neg e1]
theorem shd_srt {L M : List Nat} {a i m : Nat} (h : ∀ x, M.getD x 0 = shd L m i x) (s : Srt pl L a m) (h1 : a ≤ i) (h2 : i ≤ m)
    (q1 : i = a ∨ ¬ pl (L.getD m 0) < pl (L.getD (i - 1) 0)) (q2 : i = m ∨ pl (L.getD m 0) < pl (L.getD i 0)) : Srt pl M a (m + 1) := by
  intro x y c d e
  rw [h, h]
  unfold shd
  by_cases x1 : i < x ∧ x ≤ m
  · rw [if_pos x1, if_pos (by omega)]
    exact s _ _ (by omega) (by omega) (by omega)
  · rw [if_neg x1]
    by_cases x2 : x = i
    · rw [if_pos x2]
      by_cases y1 : i < y ∧ y ≤ m
      · rw [if_pos y1]
        have := s i (y - 1) (by omega) (by omega) (by omega)
        omega
      · rw [if_neg y1, if_pos (by omega)]; exact Nat.le_refl _
    · rw [if_neg x2]
      by_cases y1 : i < y ∧ y ≤ m
      · rw [if_pos y1]; exact s _ _ (by omega) (by omega) (by omega)
      · rw [if_neg y1]
        by_cases y2 : y = i
        · rw [if_pos y2]
          have := s x (i - 1) (by omega) (by omega) (by omega)
          omega
        · rw [if_neg y2]; exact s _ _ (by omega) (by omega) (by omega)
/- two sorted parts, parted in the middle -/
structure Parted (pl : Nat → Nat) (M : List Nat) (a s mid e b : Nat) : Prop where
  s1 : Srt pl M a s
  s2 : Srt pl M s mid
  s3 : Srt pl M mid e
  s4 : Srt pl M e b
  cross : ∀ x y, a ≤ x → x < mid → mid ≤ y → y < b → pl (M.getD x 0) ≤ pl (M.getD y 0)
theorem parted {L M : List Nat} {a m b s mid e n lo hi : Nat} (h : ∀ x, M.getD x 0 = rof L s m e x) (u : Srt pl L a m) (v : Srt pl L m b)
    (ham : a < m) (hmb : m < b) (hmid : mid = (a + b) / 2) (hn : n = mid + m) (he : e = n - s)
    (hlo : lo = if mid < m then n - b else a) (hhi : hi = if mid < m then mid else m) (h1 : lo ≤ s) (h2 : s ≤ hi)
    (q1 : s = lo ∨ ¬ pl (L.getD (n - 1 - (s - 1)) 0) < pl (L.getD (s - 1) 0)) (q2 : s = hi ∨ pl (L.getD (n - 1 - s) 0) < pl (L.getD s 0)) :
    Parted pl M a s mid e b ∧ a ≤ s ∧ s ≤ mid ∧ s ≤ m ∧ m ≤ e ∧ mid ≤ e ∧ e ≤ b := by
  have F : a ≤ s ∧ s ≤ mid ∧ s ≤ m ∧ m ≤ e ∧ mid ≤ e ∧ e ≤ b ∧ (s = lo → s = a ∨ e = b) ∧ (s = hi → s = m ∨ e = m) ∧ s + (e - m) = mid := by
    split at hlo <;> split at hhi <;> omega
  obtain ⟨f1, f2, f3, f4, f5, f6, f7, f8, f9⟩ := F
  have g1 : ∀ x, x < s → M.getD x 0 = L.getD x 0 := fun x hx => by rw [h]; unfold rof; rw [if_neg (by omega), if_neg (by omega)]
  have g2 : ∀ x, s ≤ x → x < mid → M.getD x 0 = L.getD (m + (x - s)) 0 := fun x hx hy => by rw [h]; unfold rof; rw [if_pos (by omega)]
  have g3 : ∀ x, mid ≤ x → x < e → M.getD x 0 = L.getD (x - (e - m)) 0 := fun x hx hy => by rw [h]; unfold rof; rw [if_neg (by omega), if_pos (by omega)]
  have g4 : ∀ x, e ≤ x → M.getD x 0 = L.getD x 0 := fun x hx => by rw [h]; unfold rof; rw [if_neg (by omega), if_neg (by omega)]
  have c1 : ∀ x y, a ≤ x → x < s → e ≤ y → y < b → pl (L.getD x 0) ≤ pl (L.getD y 0) := fun x y k1 k2 k3 k4 => by
    rcases q1 with q | q
    · rcases f7 q with r | r <;> omega
    · have a1 := u x (s - 1) k1 (by omega) (by omega)
      have a2 := v (n - 1 - (s - 1)) y (by omega) (by omega) k4
      omega
  have c2 : ∀ x y, m ≤ x → x < e → s ≤ y → y < m → pl (L.getD x 0) ≤ pl (L.getD y 0) := fun x y k1 k2 k3 k4 => by
    rcases q2 with q | q
    · rcases f8 q with r | r <;> omega
    · have a1 := v x (n - 1 - s) k1 (by omega) (by omega)
      have a2 := u s y (by omega) k3 k4
      omega
  refine ⟨⟨fun x y k1 k2 k3 => ?_, fun x y k1 k2 k3 => ?_, fun x y k1 k2 k3 => ?_, fun x y k1 k2 k3 => ?_, fun x y k1 k2 k3 k4 => ?_⟩, f1, f2, f3, f4, f5, f6⟩
  · rw [g1 x (by omega), g1 y k3]; exact u x y k1 k2 (by omega)
  · rw [g2 x k1 (by omega), g2 y (by omega) k3]; exact v _ _ (by omega) (by omega) (by omega)
  · rw [g3 x k1 (by omega), g3 y (by omega) k3]; exact u _ _ (by omega) (by omega) (by omega)
  · rw [g4 x k1, g4 y (by omega)]; exact v _ _ (by omega) (by omega) (by omega)
  · by_cases x1 : x < s
    · rw [g1 x x1]
      by_cases y1 : y < e
      · rw [g3 y k3 y1]; exact u _ _ (by omega) (by omega) (by omega)
      · rw [g4 y (by omega)]; exact c1 x y k1 x1 (by omega) k4
    · rw [g2 x (by omega) k2]
      by_cases y1 : y < e
      · rw [g3 y k3 y1]; exact c2 _ _ (by omega) (by omega) (by omega) (by omega)
      · rw [g4 y (by omega)]; exact v _ _ (by omega) (by omega) k4
theorem Parted.join {M M2 M3 : List Nat} {a s mid e b : Nat} (h : Parted pl M a s mid e b)
    (p2 : PM a mid M M2) (s2 : Srt pl M2 a mid) (p3 : PM mid b M2 M3) (s3 : Srt pl M3 mid b) : Srt pl M3 a b := by
  intro x y k1 k2 k3
  by_cases y1 : y < mid
  · exact s2.off p3 (Or.inl (Nat.le_refl _)) x y k1 k2 y1
  · by_cases x1 : x < mid
    · rw [p3.out x (by omega)]
      obtain ⟨i, i1, i2, i3⟩ := p2.inn x k1 x1
      obtain ⟨j, j1, j2, j3⟩ := p3.inn y (by omega) k3
      rw [i3, j3, p2.out j (by omega)]
      exact h.cross i j i1 i2 j1 j2
    · exact s3 x y (by omega) k2 k3
theorem Parted.left {M : List Nat} {a s mid e b : Nat} (h : Parted pl M a s mid e b) (q : ¬ (a < s ∧ s < mid)) (h1 : a ≤ s) (h2 : s ≤ mid) : Srt pl M a mid := by
  by_cases x : a < s
  · have : s = mid := by omega
    subst this; exact h.s1
  · have : a = s := by omega
    subst this; exact h.s2
theorem Parted.right {M : List Nat} {a s mid e b : Nat} (h : Parted pl M a s mid e b) (q : ¬ (mid < e ∧ e < b)) (h1 : mid ≤ e) (h2 : e ≤ b) : Srt pl M mid b := by
  by_cases x : mid < e
  · have : e = b := by omega
    subst this; exact h.s3
  · have : mid = e := by omega
    subst this; exact h.s4
/- blocks -/
def Blk (pl : Nat → Nat) (M : List Nat) (s n : Nat) : Prop := ∀ k, Srt pl M (s * k) (min (s * k + s) n)
structure Two (pl : Nat → Nat) (C : List Nat) (s q n : Nat) : Prop where
  done : ∀ k, k < q → Srt pl C (2 * s * k) (2 * s * k + 2 * s)
  rest : ∀ k, 2 * q ≤ k → Srt pl C (s * k) (min (s * k + s) n)
theorem Two.zero {C : List Nat} {s n : Nat} (h : Blk pl C s n) : Two pl C s 0 n := ⟨fun k hk => by omega, fun k _ => h k⟩
theorem mul2 (s q : Nat) : s * (2 * q) = 2 * s * q ∧ s * (2 * q + 1) = 2 * s * q + s ∧ s * (2 * q + 2) = 2 * s * q + 2 * s ∧ 2 * s * (q + 1) = 2 * s * q + 2 * s := by
  have e : s * (2 * q) = 2 * s * q := by rw [← Nat.mul_assoc, Nat.mul_comm s 2]
  refine ⟨e, ?_, ?_, ?_⟩
  · rw [Nat.mul_add, e, Nat.mul_one]
  · rw [Nat.mul_add, e, Nat.mul_comm s 2]
  · rw [Nat.mul_add, Nat.mul_one]
theorem Two.parts {C : List Nat} {s q n a : Nat} (h : Two pl C s q n) (ha : a = 2 * s * q) : Srt pl C a (min (a + s) n) ∧ Srt pl C (a + s) (min (a + s + s) n) := by
  obtain ⟨e1, e2, e3, e4⟩ := mul2 s q
  have r1 := h.rest (2 * q) (Nat.le_refl _)
  have r2 := h.rest (2 * q + 1) (by omega)
  rw [e1, ← ha] at r1
  rw [e2, ← ha] at r2
  exact ⟨r1, r2⟩
theorem Two.step {C M : List Nat} {s q n a : Nat} (h : Two pl C s q n) (ha : a = 2 * s * q) (p : PM a (a + 2 * s) C M) (r : Srt pl M a (a + 2 * s)) : Two pl M s (q + 1) n := by
  obtain ⟨e1, e2, e3, e4⟩ := mul2 s q
  refine ⟨fun k hk => ?_, fun k hk => ?_⟩
  · by_cases e : k = q
    · subst e; rw [← ha]; exact r
    · have := Nat.mul_le_mul_left (2 * s) (show k + 1 ≤ q by omega)
      rw [(mul2 s k).2.2.2] at this
      exact (h.done k (by omega)).off p (Or.inl (by omega))
  · have := Nat.mul_le_mul_left s (show 2 * q + 2 ≤ k by omega)
    rw [e3] at this
    exact (h.rest k (by omega)).off p (Or.inr (by omega))
theorem Two.last {C M : List Nat} {s q n a : Nat} (h : Two pl C s q n) (ha : a = 2 * s * q) (hn : n < a + 2 * s) (p : PM a n C M) (r : Srt pl M a n) : Blk pl M (2 * s) n := by
  intro k
  rcases Nat.lt_trichotomy k q with c | c | c
  · have := Nat.mul_le_mul_left (2 * s) (show k + 1 ≤ q by omega)
    rw [(mul2 s k).2.2.2] at this
    exact ((h.done k c).off p (Or.inl (by omega))).part (Nat.le_refl _) (Nat.min_le_left _ _)
  · subst c; rw [← ha]; exact r.part (Nat.le_refl _) (Nat.min_le_right _ _)
  · have := Nat.mul_le_mul_left (2 * s) (show q + 1 ≤ k by omega)
    rw [(mul2 s q).2.2.2] at this
    exact Srt.small (by omega)
theorem Blk.done {M : List Nat} {s n : Nat} (h : Blk pl M s n) (hs : n ≤ s) : Srt pl M 0 n := by
  have := h 0
  rw [Nat.mul_zero, Nat.zero_add, Nat.min_eq_right hs] at this
  exact this
/- the first blocks, of twenty each -/
theorem blk20 {C M : List Nat} {q n : Nat} (h : ∀ k, k < q → Srt pl C (20 * k) (20 * k + 20)) (hn : n < 20 * q + 20) (p : PM (20 * q) n C M) (r : Srt pl M (20 * q) n) : Blk pl M 20 n := by
  intro k
  rcases Nat.lt_trichotomy k q with c | c | c
  · exact ((h k c).off p (Or.inl (by omega))).part (Nat.le_refl _) (Nat.min_le_left _ _)
  · subst c; exact r.part (Nat.le_refl _) (Nat.min_le_right _ _)
  · exact Srt.small (by omega)
/- sorted lists of the same numbers have the same places -/
theorem srt_pair {L : List Nat} (h : Srt pl L 0 L.length) : (L.map pl).Pairwise (· ≤ ·) := by
  rw [List.pairwise_iff_getElem]
  intro i j hi hj hij
  simp only [List.length_map] at hi hj
  have := h i j (Nat.zero_le _) (by omega) hj
  simpa [List.getD_eq_getElem?_getD, hi, hj] using this
theorem srt_same {L M : List Nat} (p : L.Perm M) (h1 : Srt pl L 0 L.length) (h2 : Srt pl M 0 M.length) : L.map pl = M.map pl :=
  (p.map pl).eq_of_pairwise (fun _ _ _ _ h k => Nat.le_antisymm h k) (srt_pair h1) (srt_pair h2)
end Go.Proofs.Ytfjkchkcgnjkaaa.St
