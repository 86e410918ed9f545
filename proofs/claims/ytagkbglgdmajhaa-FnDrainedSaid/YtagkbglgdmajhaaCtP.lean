/- Ways along next, plain: sums, ways, how many go through a cell, an order in which each cell stands behind all that drain into it. -/
import Derived.WalkKit
namespace Go.Proofs.Ytagkbglgdmajhaa.Ct

def sm : Nat → (Nat → Int) → Int
  | 0, _ => 0
  | n + 1, f => sm n f + f n
theorem sm_congr {n : Nat} {f g : Nat → Int} (h : ∀ i, i < n → f i = g i) : sm n f = sm n g := by
  induction n with
  | zero => rfl
  | succ n ih => unfold sm; rw [ih fun i hi => h i (by omega), h n (by omega)]
theorem sm_add (n : Nat) (f g : Nat → Int) : sm n (fun i => f i + g i) = sm n f + sm n g := by
  induction n with
  | zero => rfl
  | succ n ih => simp only [sm]; rw [ih]; omega
theorem sm_zero {n : Nat} {f : Nat → Int} (h : ∀ i, i < n → f i = 0) : sm n f = 0 := by
  induction n with
  | zero => rfl
  | succ n ih => unfold sm; rw [ih fun i hi => h i (by omega), h n (by omega)]; rfl
theorem sm_one {n c : Nat} (h : c < n) (v : Int) : sm n (fun i => if i = c then v else 0) = v := by
  induction n with
  | zero => omega
  | succ n ih =>
    simp only [sm]
    by_cases e : n = c
    · rw [if_pos e, sm_zero fun i hi => if_neg (by omega)]; omega
    · rw [if_neg e, ih (by omega)]; omega
theorem sm_swap (n m : Nat) (f : Nat → Nat → Int) : sm n (fun i => sm m (fun j => f i j)) = sm m (fun j => sm n (fun i => f i j)) := by
  induction n with
  | zero => exact (sm_zero (n := m) fun j _ => rfl).symm
  | succ n ih =>
    show sm n _ + sm m _ = _
    rw [ih, ← sm_add]
    rfl
theorem sm_ge {n : Nat} {f : Nat → Int} (h : ∀ i, i < n → 0 ≤ f i) : 0 ≤ sm n f := by
  induction n with
  | zero => exact Int.le_refl _
  | succ n ih => unfold sm; have := ih fun i hi => h i (by omega); have := h n (by omega); omega
theorem sm_le {n : Nat} {f : Nat → Int} (h : ∀ i, i < n → f i ≤ 1) : sm n f ≤ n := by
  induction n with
  | zero => exact Int.le_refl _
  | succ n ih => unfold sm; have := ih fun i hi => h i (by omega); have := h n (by omega); omega
theorem sm_all {n : Nat} {f : Nat → Int} (h : ∀ i, i < n → f i ≤ 1) (e : sm n f = n) : ∀ i, i < n → f i = 1 := by
  induction n with
  | zero => intro i hi; omega
  | succ n ih =>
    unfold sm at e
    have a := sm_le (n := n) fun i hi => h i (by omega)
    have b := h n (by omega)
    intro i hi
    by_cases e' : i = n
    · subst e'; omega
    · exact ih (fun i hi => h i (by omega)) (by omega) i (by omega)
theorem sm_pos {n c : Nat} {f : Nat → Int} (h : ∀ i, i < n → 0 ≤ f i) (hc : c < n) (h1 : 0 < f c) : 0 < sm n f := by
  induction n with
  | zero => omega
  | succ n ih =>
    unfold sm
    by_cases e : c = n
    · subst e; have := sm_ge (n := c) fun i hi => h i (by omega); omega
    · have := ih (fun i hi => h i (by omega)) (by omega); have := h n (by omega); omega
theorem sm_some {n : Nat} {f : Nat → Int} (h : sm n f ≠ 0) : ∃ i, i < n ∧ f i ≠ 0 := by
  by_cases e : ∀ i, i < n → f i = 0
  · exact absurd (sm_zero e) h
  · simp only [Classical.not_forall] at e
    obtain ⟨i, hi, h⟩ := e
    exact ⟨i, hi, h⟩
theorem sm_if (n : Nat) (p : Prop) [Decidable p] (f : Nat → Int) : (if p then sm n f else 0) = sm n (fun i => if p then f i else 0) := by
  by_cases h : p
  · rw [if_pos h]; exact sm_congr fun i _ => by rw [if_pos h]
  · rw [if_neg h, sm_zero fun i _ => by rw [if_neg h]]

def nx (N : List Int) (c : Nat) : Int := N.getD c 0
def Va (N : List Int) : Prop := ∀ c, c < N.length → -1 ≤ nx N c ∧ nx N c < N.length
def last (N : List Int) : Nat → Nat → Option Nat
  | 0, _ => none
  | f + 1, c => if nx N c = -1 then some c else last N f (nx N c).toNat
def path (N : List Int) : Nat → Nat → List Nat
  | 0, _ => []
  | f + 1, c => c :: (if nx N c = -1 then [] else path N f (nx N c).toNat)
def pth (N : List Int) (c : Nat) : List Nat := path N (N.length + 1) c
def Ends (N : List Int) : Prop := ∀ c, c < N.length → (last N (N.length + 1) c).isSome

theorem last_more (N : List Int) : ∀ (f g c r : Nat), f ≤ g → last N f c = some r → last N g c = some r := by
  intro f
  induction f with
  | zero => intro g c r _ h; simp [last] at h
  | succ f ih =>
    intro g c r hg h
    obtain ⟨g, rfl⟩ : ∃ k, g = k + 1 := ⟨g - 1, by omega⟩
    unfold last at h ⊢
    by_cases e : nx N c = -1
    · rw [if_pos e] at h ⊢; exact h
    · rw [if_neg e] at h ⊢; exact ih g _ r (by omega) h
theorem path_more (N : List Int) : ∀ (f g c : Nat), f ≤ g → (last N f c).isSome → path N g c = path N f c := by
  intro f
  induction f with
  | zero => intro g c _ h; simp [last] at h
  | succ f ih =>
    intro g c hg h
    obtain ⟨g, rfl⟩ : ∃ k, g = k + 1 := ⟨g - 1, by omega⟩
    unfold last at h
    unfold path
    by_cases e : nx N c = -1
    · rw [if_pos e, if_pos e]
    · rw [if_neg e] at h ⊢; rw [if_neg e, ih g _ (by omega) h]
theorem last_lt {N : List Int} (hv : Va N) : ∀ (f c r : Nat), c < N.length → last N f c = some r → r < N.length ∧ nx N r = -1 := by
  intro f
  induction f with
  | zero => intro c r _ h; simp [last] at h
  | succ f ih =>
    intro c r hc h
    unfold last at h
    by_cases e : nx N c = -1
    · rw [if_pos e] at h; obtain rfl : c = r := by simpa using h
      exact ⟨hc, e⟩
    · rw [if_neg e] at h
      have := hv c hc
      exact ih _ r (by omega) h
theorem pth_end {N : List Int} {c : Nat} (h : nx N c = -1) : pth N c = [c] := by
  unfold pth path; rw [if_pos h]
theorem pth_step {N : List Int} (he : Ends N) {c d : Nat} (hc : c < N.length) (h : nx N c = d) : pth N c = c :: pth N d := by
  have e : nx N c ≠ -1 := by omega
  have hs := he c hc
  unfold last at hs
  rw [if_neg e, h, Int.toNat_natCast] at hs
  show path N (N.length + 1) c = _
  unfold path
  rw [if_neg e, h, Int.toNat_natCast]
  unfold pth
  rw [path_more N N.length (N.length + 1) _ (by omega) hs]

def cn (x : Nat) (R : List Nat) : Int := R.count x
theorem cn_cons (x c : Nat) (R : List Nat) : cn x (c :: R) = (if c = x then 1 else 0) + cn x R := by
  unfold cn
  rw [List.count_cons]
  by_cases e : c = x
  · simp [e]; omega
  · simp [e]
theorem cn_nil (x : Nat) : cn x [] = 0 := rfl
theorem cn_rec {N : List Int} (hv : Va N) (x : Nat) : ∀ (f c : Nat), c < N.length → (last N f c).isSome → cn x (path N f c) = (if c = x then 1 else 0) + sm N.length (fun p => if nx N p = x then cn p (path N f c) else 0) := by
  intro f
  induction f with
  | zero => intro c _ h; simp [last] at h
  | succ f ih =>
    intro c hc h
    unfold last at h
    unfold path
    have one : ∀ v : Int, sm N.length (fun p => if nx N p = x then (if c = p then v else 0) else 0) = if nx N c = x then v else 0 := fun v => by
      rw [← sm_one hc (if nx N c = x then v else 0)]
      refine sm_congr fun i _ => ?_
      by_cases e : i = c
      · subst e; simp
      · rw [if_neg e, if_neg (show ¬ c = i by omega)]; split <;> rfl
    by_cases e : nx N c = -1
    · rw [if_pos e, cn_cons, cn_nil]
      have : sm N.length (fun p => if nx N p = x then cn p [c] else 0) = 0 := by
        rw [sm_congr (g := fun p => if nx N p = x then (if c = p then 1 else 0) else 0) fun i _ => by rw [cn_cons, cn_nil]; simp, one 1, if_neg (by omega)]
      rw [this]
    · rw [if_neg e] at h ⊢
      have hd : (nx N c).toNat < N.length := by have := hv c hc; omega
      have k := ih _ hd h
      rw [cn_cons, k]
      have : sm N.length (fun p => if nx N p = x then cn p (c :: path N f (nx N c).toNat) else 0) = (if nx N c = x then 1 else 0) + sm N.length (fun p => if nx N p = x then cn p (path N f (nx N c).toNat) else 0) := by
        rw [← one 1, ← sm_add]
        refine sm_congr fun i _ => ?_
        by_cases q : nx N i = x
        · rw [if_pos q, if_pos q, if_pos q, cn_cons]
        · rw [if_neg q, if_neg q, if_neg q]; rfl
      rw [this]
      have : (if (nx N c).toNat = x then (1 : Int) else 0) = if nx N c = x then 1 else 0 := by
        have := (hv c hc).1
        by_cases q : nx N c = x
        · rw [if_pos q, if_pos (by omega)]
        · rw [if_neg q, if_neg (by omega)]
      omega

def thru (N : List Int) (k x : Nat) : Int := sm k (fun c => cn x (pth N c))
def F (N : List Int) (x : Nat) : Int := thru N N.length x
theorem F_rec {N : List Int} (hv : Va N) (he : Ends N) (x : Nat) (hx : x < N.length) : F N x = 1 + sm N.length (fun p => if nx N p = x then F N p else 0) := by
  have h : F N x = sm N.length (fun c => (if c = x then 1 else 0) + sm N.length (fun p => if nx N p = x then cn p (pth N c) else 0)) := sm_congr fun c hc => cn_rec hv x _ c hc (he c hc)
  rw [h, sm_add, sm_one hx, sm_swap]
  congr 1
  refine sm_congr fun p _ => ?_
  unfold F thru
  rw [sm_if]
theorem path_mem {N : List Int} (hv : Va N) : ∀ (f c : Nat), c < N.length → ∀ x ∈ path N f c, x < N.length := by
  intro f
  induction f with
  | zero => intro c _ x h; simp [path] at h
  | succ f ih =>
    intro c hc x h
    unfold path at h
    rw [List.mem_cons] at h
    rcases h with rfl | h
    · exact hc
    · by_cases e : nx N c = -1
      · rw [if_pos e] at h; simp at h
      · rw [if_neg e] at h
        have := hv c hc
        exact ih _ (by omega) x h
theorem path_len (N : List Int) : ∀ (f c : Nat), (path N f c).length ≤ f := by
  intro f
  induction f with
  | zero => intro c; simp [path]
  | succ f ih =>
    intro c
    unfold path
    by_cases e : nx N c = -1
    · simp [e]
    · rw [if_neg e]; have := ih (nx N c).toNat; simp; omega
theorem cn_le (x : Nat) (R : List Nat) : 0 ≤ cn x R ∧ cn x R ≤ R.length := by
  unfold cn
  have := List.count_le_length (a := x) (l := R)
  omega
theorem thru_le (N : List Int) (k x : Nat) : 0 ≤ thru N k x ∧ thru N k x ≤ k * (N.length + 1) := by
  induction k with
  | zero => simp [thru, sm]
  | succ k ih =>
    have a := cn_le x (pth N k)
    have b := path_len N (N.length + 1) k
    have e : thru N (k + 1) x = thru N k x + cn x (pth N k) := rfl
    unfold pth at a e
    rw [e]
    have : ((k + 1 : Nat) : Int) * (N.length + 1) = k * (N.length + 1) + (N.length + 1) := by rw [Int.natCast_add, Int.add_mul]; simp
    omega

def zr (O : List Int) : Nat → List Nat
  | 0 => []
  | k + 1 => if O.getD k 0 = 0 then zr O k ++ [k] else zr O k
theorem zr_mem (O : List Int) (k x : Nat) : x ∈ zr O k ↔ x < k ∧ O.getD x 0 = 0 := by
  induction k with
  | zero => simp [zr]
  | succ k ih =>
    unfold zr
    by_cases e : O.getD k 0 = 0
    · rw [if_pos e, List.mem_append, ih]
      simp only [List.mem_singleton]
      constructor
      · rintro (⟨h, h'⟩ | rfl)
        · exact ⟨by omega, h'⟩
        · exact ⟨by omega, e⟩
      · rintro ⟨h, h'⟩
        by_cases q : x = k
        · exact .inr q
        · exact .inl ⟨by omega, h'⟩
    · rw [if_neg e, ih]
      constructor
      · rintro ⟨h, h'⟩; exact ⟨by omega, h'⟩
      · rintro ⟨h, h'⟩
        refine ⟨?_, h'⟩
        by_cases q : x = k
        · subst q; exact absurd h' e
        · omega
theorem zr_len (O : List Int) (k : Nat) : sm k (fun x => if O.getD x 0 = 0 then 1 else 0) = (zr O k).length ∧ (zr O k).length ≤ k := by
  induction k with
  | zero => exact ⟨rfl, Nat.le_refl _⟩
  | succ k ih =>
    simp only [zr, sm]
    rw [ih.1]
    by_cases e : O.getD k 0 = 0
    · rw [if_pos e, if_pos e]; simp; omega
    · rw [if_neg e, if_neg e]; omega
def Nd (Q : List Nat) : Prop := ∀ j k x : Nat, Q[j]? = some x → Q[k]? = some x → j = k
theorem nd_snoc {Q : List Nat} {d : Nat} (h : Nd Q) (hd : d ∉ Q) : Nd (Q ++ [d]) := by
  intro j k x hj hk
  have aux : ∀ j : Nat, (Q ++ [d])[j]? = some x → (Q[j]? = some x ∧ j < Q.length) ∨ (j = Q.length ∧ x = d) := fun j hj => by
    by_cases q : j < Q.length
    · rw [List.getElem?_append_left q] at hj; exact .inl ⟨hj, q⟩
    · rw [List.getElem?_append_right (by omega)] at hj
      by_cases q2 : j - Q.length = 0
      · rw [q2] at hj; simp at hj; exact .inr ⟨by omega, hj.symm⟩
      · rw [List.getElem?_eq_none (by simp; omega)] at hj; cases hj
  rcases aux j hj with ⟨a, a'⟩ | ⟨a, a'⟩ <;> rcases aux k hk with ⟨b, b'⟩ | ⟨b, b'⟩
  · exact h j k x a b
  · subst b'; exact absurd (List.mem_of_getElem? a) hd
  · subst a'; exact absurd (List.mem_of_getElem? b) hd
  · omega
theorem zr_nd (O : List Int) (k : Nat) : Nd (zr O k) := by
  induction k with
  | zero => intro j k x h; simp [zr] at h
  | succ k ih =>
    unfold zr
    by_cases e : O.getD k 0 = 0
    · rw [if_pos e]; exact nd_snoc ih (fun h => by have := (zr_mem O k k).1 h; omega)
    · rw [if_neg e]; exact ih

structure KI (N : List Int) (i : Nat) (Q : List Nat) (O : List Int) : Prop where
  len : O.length = N.length
  lt : ∀ x ∈ Q, x < N.length
  cnt : sm N.length (fun x => if x ∈ Q then 1 else 0) = Q.length
  op : ∀ x, x < N.length → O.getD x 0 = sm N.length (fun c => if nx N c = x ∧ c ∉ Q.take i then 1 else 0)
  zero : ∀ x, x < N.length → (x ∈ Q ↔ O.getD x 0 = 0)
  top : ∀ j : Nat, j < i → ∀ q : Nat, Q[j]? = some q → ∀ k : Nat, k ≤ j → ∀ x : Nat, Q[k]? = some x → nx N q ≠ x
  le : i ≤ Q.length
  nd : Nd Q
theorem ki_len {N : List Int} {i : Nat} {Q : List Nat} {O : List Int} (h : KI N i Q O) : Q.length ≤ N.length := by
  have := sm_le (n := N.length) (f := fun x => if x ∈ Q then 1 else 0) fun i _ => by show (if i ∈ Q then (1 : Int) else 0) ≤ 1; split <;> omega
  rw [h.cnt] at this
  omega
theorem ki_start {N O : List Int} (hl : O.length = N.length) (ho : ∀ x, x < N.length → O.getD x 0 = sm N.length (fun c => if nx N c = x then 1 else 0)) : KI N 0 (zr O N.length) O where
  len := hl
  lt := fun x hx => ((zr_mem O _ x).1 hx).1
  cnt := by
    rw [← (zr_len O N.length).1]
    refine sm_congr fun x hx => ?_
    by_cases e : O.getD x 0 = 0
    · rw [if_pos e, if_pos ((zr_mem O _ x).2 ⟨hx, e⟩)]
    · rw [if_neg e, if_neg (fun h => e ((zr_mem O _ x).1 h).2)]
  op := fun x hx => by rw [ho x hx]; exact sm_congr fun c _ => by simp
  zero := fun x hx => ⟨fun h => ((zr_mem O _ x).1 h).2, fun h => (zr_mem O _ x).2 ⟨hx, h⟩⟩
  top := fun j hj => by omega
  le := Nat.zero_le _
  nd := zr_nd O _
theorem take_mem {Q : List Nat} {i c : Nat} (hi : Q[i]? = some c) (x : Nat) : x ∈ Q.take (i + 1) ↔ x ∈ Q.take i ∨ x = c := by
  have hl : i < Q.length := by
    by_cases q : i < Q.length
    · exact q
    · rw [List.getElem?_eq_none (by omega)] at hi; cases hi
  rw [List.take_add_one, hi]
  simp
theorem not_take {Q : List Nat} (h : Nd Q) {i c : Nat} (hi : Q[i]? = some c) : c ∉ Q.take i := by
  intro hm
  obtain ⟨j, hj⟩ := List.getElem?_of_mem hm
  have hji : j < i := by
    by_cases q : j < i
    · exact q
    · rw [List.getElem?_eq_none (by simp; omega)] at hj; cases hj
  rw [List.getElem?_take_of_lt hji] at hj
  have := h j i c hj hi
  omega
theorem ki_sea {N : List Int} {i c : Nat} {Q : List Nat} {O : List Int} (h : KI N i Q O) (hi : Q[i]? = some c) (hc : nx N c = -1) : KI N (i + 1) Q O where
  len := h.len
  lt := h.lt
  cnt := h.cnt
  op := fun x hx => by
    rw [h.op x hx]
    refine sm_congr fun e _ => ?_
    by_cases q : e = c
    · subst q; rw [if_neg (fun z => by omega), if_neg (fun z => by omega)]
    · have : (nx N e = x ∧ e ∉ Q.take i) ↔ (nx N e = x ∧ e ∉ Q.take (i + 1)) := by rw [take_mem hi]; simp [q]
      by_cases z : nx N e = x ∧ e ∉ Q.take i
      · rw [if_pos z, if_pos (this.1 z)]
      · rw [if_neg z, if_neg (fun y => z (this.2 y))]
  zero := h.zero
  top := fun j hj q hq k hk x hx => by
    by_cases e : j = i
    · subst e
      obtain rfl : c = q := by rw [hi] at hq; simpa using hq
      omega
    · exact h.top j (by omega) q hq k hk x hx
  le := by
    have : i < Q.length := by
      by_cases q : i < Q.length
      · exact q
      · rw [List.getElem?_eq_none (by omega)] at hi; cases hi
    omega
  nd := h.nd
theorem getD_set (O : List Int) (d x : Nat) (v : Int) (hd : d < O.length) : (O.set d v).getD x 0 = if x = d then v else O.getD x 0 := by
  simp only [List.getD_eq_getElem?_getD, List.getElem?_set]
  by_cases e : d = x
  · subst e; simp [hd]
  · rw [if_neg e, if_neg (by omega)]
theorem ki_open {N : List Int} {i c d : Nat} {Q : List Nat} {O : List Int} (hv : Va N) (h : KI N i Q O) (hi : Q[i]? = some c) (hc : nx N c = d) :
    c < N.length ∧ d < N.length ∧ d ∉ Q ∧ 1 ≤ O.getD d 0 ∧ ∀ x, x < N.length → (O.set d (O.getD d 0 - 1)).getD x 0 = sm N.length (fun e => if nx N e = x ∧ e ∉ Q.take (i + 1) then 1 else 0) := by
  have c1 : c < N.length := h.lt c (List.mem_of_getElem? hi)
  have d1 : d < N.length := by have := hv c c1; omega
  have ct := not_take h.nd hi
  have p1 : 0 < O.getD d 0 := by
    rw [h.op d d1]
    refine sm_pos (c := c) (fun e _ => by show 0 ≤ (if _ then (1 : Int) else 0); split <;> omega) c1 ?_
    rw [if_pos ⟨hc, ct⟩]
    omega
  refine ⟨c1, d1, fun hm => by have := (h.zero d d1).1 hm; omega, by omega, fun x hx => ?_⟩
  rw [getD_set O d x _ (by rw [h.len]; exact d1)]
  have key : sm N.length (fun e => if nx N e = x ∧ e ∉ Q.take i then 1 else 0) = sm N.length (fun e => if nx N e = x ∧ e ∉ Q.take (i + 1) then 1 else 0) + (if x = d then 1 else 0) := by
    rw [← sm_one c1 (if x = d then 1 else 0), ← sm_add]
    refine sm_congr fun e _ => ?_
    by_cases q : e = c
    · subst q
      rw [if_neg (c := nx N e = x ∧ e ∉ Q.take (i + 1)) (fun z => z.2 ((take_mem hi e).2 (.inr rfl))), if_pos rfl]
      by_cases z : x = d
      · subst z; rw [if_pos ⟨hc, ct⟩, if_pos rfl]; rfl
      · rw [if_neg z, if_neg (fun y => z (by have := y.1; omega))]; rfl
    · rw [if_neg q]
      have : (nx N e = x ∧ e ∉ Q.take i) ↔ (nx N e = x ∧ e ∉ Q.take (i + 1)) := by rw [take_mem hi]; simp [q]
      by_cases z : nx N e = x ∧ e ∉ Q.take i
      · rw [if_pos z, if_pos (this.1 z)]; rfl
      · rw [if_neg z, if_neg (fun y => z (this.2 y))]; rfl
  by_cases e : x = d
  · subst e
    rw [if_pos rfl, h.op x hx, key, if_pos rfl]
    omega
  · rw [if_neg e, h.op x hx, key, if_neg e]
    omega
theorem ki_top {N : List Int} {i c d : Nat} {Q : List Nat} {O : List Int} (h : KI N i Q O) (hi : Q[i]? = some c) (hc : nx N c = d) (hd : d ∉ Q) : ∀ j : Nat, j < i + 1 → ∀ q : Nat, Q[j]? = some q → ∀ k : Nat, k ≤ j → ∀ x : Nat, Q[k]? = some x → nx N q ≠ x := by
  intro j hj q hq k hk x hx
  by_cases e : j = i
  · subst e
    obtain rfl : c = q := by rw [hi] at hq; simpa using hq
    intro z
    have : d = x := by omega
    subst this
    exact hd (List.mem_of_getElem? hx)
  · exact h.top j (by omega) q hq k hk x hx
theorem idx_lt {Q : List Nat} {i c : Nat} (hi : Q[i]? = some c) : i < Q.length := by
  by_cases q : i < Q.length
  · exact q
  · rw [List.getElem?_eq_none (by omega)] at hi; cases hi
theorem ki_wait {N : List Int} {i c d : Nat} {Q : List Nat} {O : List Int} (hv : Va N) (h : KI N i Q O) (hi : Q[i]? = some c) (hc : nx N c = d) (h1 : O.getD d 0 - 1 ≠ 0) : KI N (i + 1) Q (O.set d (O.getD d 0 - 1)) := by
  obtain ⟨c1, d1, dq, o1, op⟩ := ki_open hv h hi hc
  refine ⟨by rw [List.length_set]; exact h.len, h.lt, h.cnt, op, fun x hx => ?_, ki_top h hi hc dq, idx_lt hi, h.nd⟩
  rw [getD_set O d x _ (by rw [h.len]; exact d1)]
  by_cases e : x = d
  · subst e; rw [if_pos rfl]; exact ⟨fun z => absurd z dq, fun z => absurd z h1⟩
  · rw [if_neg e]; exact h.zero x hx
theorem ki_free {N : List Int} {i c d : Nat} {Q : List Nat} {O : List Int} (hv : Va N) (h : KI N i Q O) (hi : Q[i]? = some c) (hc : nx N c = d) (h1 : O.getD d 0 - 1 = 0) : KI N (i + 1) (Q ++ [d]) (O.set d (O.getD d 0 - 1)) := by
  obtain ⟨c1, d1, dq, o1, op⟩ := ki_open hv h hi hc
  have hl := idx_lt hi
  refine ⟨by rw [List.length_set]; exact h.len, ?_, ?_, ?_, fun x hx => ?_, ?_, by simp; omega, nd_snoc h.nd dq⟩
  · intro x hx
    rw [List.mem_append, List.mem_singleton] at hx
    rcases hx with hx | rfl
    · exact h.lt x hx
    · exact d1
  · have : sm N.length (fun x => if x ∈ Q ++ [d] then (1 : Int) else 0) = sm N.length (fun x => if x ∈ Q then 1 else 0) + sm N.length (fun x => if x = d then 1 else 0) := by
      rw [← sm_add]
      refine sm_congr fun x _ => ?_
      by_cases e : x = d
      · subst e; rw [if_pos (by simp), if_neg dq, if_pos rfl]; rfl
      · rw [if_neg (c := x = d) e]
        by_cases m : x ∈ Q
        · rw [if_pos (by simp [m]), if_pos m]; rfl
        · rw [if_neg (by simp [m, e]), if_neg m]; rfl
    rw [this, h.cnt, sm_one d1]
    simp
  · intro x hx
    rw [op x hx, List.take_append_of_le_length (by omega)]
  · rw [getD_set O d x _ (by rw [h.len]; exact d1)]
    by_cases e : x = d
    · subst e; rw [if_pos rfl]; exact ⟨fun _ => h1, fun _ => by simp⟩
    · rw [if_neg e, ← h.zero x hx]; simp [e]
  · intro j hj q hq k hk x hx
    rw [List.getElem?_append_left (by omega)] at hq hx
    exact ki_top h hi hc dq j hj q hq k hk x hx

theorem ki_round {N : List Int} {Q : List Nat} {O : List Int} (h : KI N Q.length Q O) (hl : Q.length < N.length) : ¬ Ends N := by
  intro he
  have x0 : ∃ x, x < N.length ∧ x ∉ Q := by
    by_cases e : ∀ x, x < N.length → x ∈ Q
    · have : sm N.length (fun x => if x ∈ Q then (1 : Int) else 0) = sm N.length (fun _ => 1) := sm_congr fun x hx => by rw [if_pos (e x hx)]
      have one : ∀ n, sm n (fun _ => 1) = n := fun n => by
        induction n with
        | zero => rfl
        | succ n ih => unfold sm; rw [ih]; simp
      rw [h.cnt, one] at this
      omega
    · simp only [Classical.not_forall] at e
      obtain ⟨x, hx, e⟩ := e
      exact ⟨x, hx, e⟩
  have step : ∀ f, ∃ c, c < N.length ∧ c ∉ Q ∧ last N f c = none := by
    intro f
    induction f with
    | zero => obtain ⟨x, hx, hq⟩ := x0; exact ⟨x, hx, hq, rfl⟩
    | succ f ih =>
      obtain ⟨c, hc, hq, hn⟩ := ih
      have o : O.getD c 0 ≠ 0 := fun z => hq ((h.zero c hc).2 z)
      rw [h.op c hc] at o
      obtain ⟨p, hp, z⟩ := sm_some o
      have hpc : nx N p = c ∧ p ∉ Q.take Q.length := by
        by_cases y : nx N p = c ∧ p ∉ Q.take Q.length
        · exact y
        · rw [if_neg y] at z; exact absurd rfl z
      rw [List.take_length] at hpc
      refine ⟨p, hp, hpc.2, ?_⟩
      unfold last
      rw [if_neg (by omega), hpc.1]
      exact hn
  obtain ⟨c, hc, _, hn⟩ := step (N.length + 1)
  have := he c hc
  rw [hn] at this
  simp at this
theorem ki_all {N : List Int} {Q : List Nat} {O : List Int} {i : Nat} (h : KI N i Q O) (hl : Q.length = N.length) : ∀ x, x < N.length → x ∈ Q := by
  intro x hx
  have := sm_all (n := N.length) (f := fun x => if x ∈ Q then 1 else 0) (fun i _ => by show (if i ∈ Q then (1 : Int) else 0) ≤ 1; split <;> omega) (by rw [h.cnt, hl]) x hx
  by_cases m : x ∈ Q
  · exact m
  · simp [m] at this
theorem ki_ends {N : List Int} {Q : List Nat} {O : List Int} (hv : Va N) (h : KI N Q.length Q O) (hl : Q.length = N.length) : Ends N := by
  have al := ki_all h hl
  have H : ∀ m j c : Nat, m + j = N.length → Q[j]? = some c → ∃ r, last N m c = some r := by
    intro m
    induction m using Nat.strongRecOn with
    | ind m ih =>
      intro j c hm hj
      have jl := idx_lt hj
      obtain ⟨m, rfl⟩ : ∃ k, m = k + 1 := ⟨m - 1, by omega⟩
      unfold last
      have cl : c < N.length := h.lt c (List.mem_of_getElem? hj)
      by_cases e : nx N c = -1
      · rw [if_pos e]; exact ⟨c, rfl⟩
      · rw [if_neg e]
        have hv' := hv c cl
        obtain ⟨k, hk⟩ := List.getElem?_of_mem (al (nx N c).toNat (by omega))
        have kl := idx_lt hk
        have : j < k := by
          by_cases q : j < k
          · exact q
          · exact absurd (show nx N c = ((nx N c).toNat : Int) by omega) (h.top j (by omega) c hj k (by omega) _ hk)
        obtain ⟨r, hr⟩ := ih (N.length - k) (by omega) k _ (by omega) hk
        exact ⟨r, last_more N _ _ _ _ (by omega) hr⟩
  intro c hc
  obtain ⟨j, hj⟩ := List.getElem?_of_mem (al c hc)
  have := idx_lt hj
  obtain ⟨r, hr⟩ := H (N.length - j) j c (by omega) hj
  rw [last_more N _ (N.length + 1) _ _ (by omega) hr]
  rfl

def part (N : List Int) (Q : List Nat) (i x : Nat) : Int := (if x ∈ Q.take i then 1 else 0) + sm N.length (fun p => if nx N p = x ∧ p ∈ Q.take i then F N p else 0)
theorem part_start (N : List Int) (Q : List Nat) (x : Nat) : part N Q 0 x = 0 := by
  unfold part
  rw [sm_zero fun p _ => by simp]
  simp
theorem part_at {N : List Int} {Q : List Nat} {O : List Int} {i c : Nat} (hv : Va N) (he : Ends N) (h : KI N Q.length Q O) (hl : Q.length = N.length) (hi : Q[i]? = some c) : part N Q i c + 1 = F N c := by
  have cl : c < N.length := h.lt c (List.mem_of_getElem? hi)
  rw [F_rec hv he c cl]
  unfold part
  rw [if_neg (not_take h.nd hi)]
  have : sm N.length (fun p => if nx N p = c ∧ p ∈ Q.take i then F N p else 0) = sm N.length (fun p => if nx N p = c then F N p else 0) := by
    refine sm_congr fun p hp => ?_
    by_cases e : nx N p = c
    · have : p ∈ Q.take i := by
        obtain ⟨k, hk⟩ := List.getElem?_of_mem (ki_all h hl p hp)
        have kl := idx_lt hk
        have : k < i := by
          by_cases q : k < i
          · exact q
          · exact absurd e (h.top k kl p hk i (by omega) c hi)
        have : (Q.take i)[k]? = some p := by rw [List.getElem?_take_of_lt this]; exact hk
        exact List.mem_of_getElem? this
      rw [if_pos e, if_pos ⟨e, this⟩]
    · rw [if_neg e, if_neg (fun z => e z.1)]
  rw [this]
  omega
theorem part_next {N : List Int} {Q : List Nat} {i c : Nat} (hn : Nd Q) (cl : c < N.length) (hi : Q[i]? = some c) (x : Nat) : part N Q (i + 1) x = part N Q i x + (if x = c then 1 else 0) + (if nx N c = x then F N c else 0) := by
  unfold part
  have a : (if x ∈ Q.take (i + 1) then (1 : Int) else 0) = (if x ∈ Q.take i then 1 else 0) + (if x = c then 1 else 0) := by
    by_cases e : x = c
    · subst e; rw [if_pos ((take_mem hi x).2 (.inr rfl)), if_neg (not_take hn hi), if_pos rfl]; rfl
    · rw [if_neg (c := x = c) e]
      by_cases m : x ∈ Q.take i
      · rw [if_pos ((take_mem hi x).2 (.inl m)), if_pos m]; rfl
      · rw [if_neg (fun z => by rcases (take_mem hi x).1 z with z | z; exact m z; exact e z), if_neg m]; rfl
  have b : sm N.length (fun p => if nx N p = x ∧ p ∈ Q.take (i + 1) then F N p else 0) = sm N.length (fun p => if nx N p = x ∧ p ∈ Q.take i then F N p else 0) + (if nx N c = x then F N c else 0) := by
    rw [← sm_one cl (if nx N c = x then F N c else 0), ← sm_add]
    refine sm_congr fun p _ => ?_
    by_cases e : p = c
    · subst e
      rw [if_pos (c := p = p) rfl, if_neg (c := nx N p = x ∧ p ∈ Q.take i) (fun z => not_take hn hi z.2)]
      by_cases z : nx N p = x
      · rw [if_pos z, if_pos ⟨z, (take_mem hi p).2 (.inr rfl)⟩]; omega
      · rw [if_neg z, if_neg (fun y => z y.1)]; rfl
    · rw [if_neg (c := p = c) e]
      have : (nx N p = x ∧ p ∈ Q.take i) ↔ (nx N p = x ∧ p ∈ Q.take (i + 1)) := by rw [take_mem hi]; simp [e]
      by_cases z : nx N p = x ∧ p ∈ Q.take i
      · rw [if_pos z, if_pos (this.1 z)]; omega
      · rw [if_neg z, if_neg (fun y => z (this.2 y))]; rfl
  rw [a, b]
  omega
theorem part_end {N : List Int} {Q : List Nat} {O : List Int} (hv : Va N) (he : Ends N) (h : KI N Q.length Q O) (hl : Q.length = N.length) (x : Nat) (hx : x < N.length) : part N Q Q.length x = F N x := by
  rw [F_rec hv he x hx]
  unfold part
  rw [List.take_length, if_pos (ki_all h hl x hx)]
  congr 1
  refine sm_congr fun p hp => ?_
  by_cases e : nx N p = x
  · rw [if_pos e, if_pos ⟨e, ki_all h hl p hp⟩]
  · rw [if_neg e, if_neg (fun z => e z.1)]
theorem list_eq {A B : List Int} (hl : A.length = B.length) (h : ∀ x, x < A.length → A.getD x 0 = B.getD x 0) : A = B := by
  apply List.ext_getElem hl
  intro i h1 h2
  have := h i h1
  simpa [List.getD_eq_getElem?_getD, h1, h2] using this
end Go.Proofs.Ytagkbglgdmajhaa.Ct
