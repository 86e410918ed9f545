/- What happens to a suite, plainly: what starts, what is done, what is stuck. -/
import Derived.Test.YtfhpomfdkpfooaaPn
import Derived.Test.YtfhpomfdkpfooaaIk
namespace Go.Proofs.Ytfhpomfdkpfooaa.Ty
open Go.Proofs.Ytfhpomfdkpfooaa.Lists Go.Proofs.Ytfhpomfdkpfooaa.Tm Go.Proofs.Ytfhpomfdkpfooaa.Rk Go.Proofs.Ytfhpomfdkpfooaa.Ru Go.Proofs.Ytfhpomfdkpfooaa.Al

/-- does task i start? -/
def stt (R : Tk.Ls) (X : List Int) (J : Jb.Ls) (i : Nat) : Bool := cn R X (jn R X J i) i
theorem ln_mem {R : Tk.Ls} {X : List Int} {J : Jb.Ls} {x : Int} : ∀ k, x ∈ ln R X J k ↔ ∃ i : Nat, i < k ∧ x = (i : Int) + 1 ∧ stt R X J i = true
  | 0 => by simp [ln]
  | k + 1 => by
    have ih := ln_mem (R := R) (X := X) (J := J) (x := x) k
    cases h : cn R X (jn R X J k) k
    · rw [(jn_no h).2, ih]
      constructor
      · rintro ⟨i, h1, h2⟩; exact ⟨i, by omega, h2⟩
      · rintro ⟨i, h1, h2, h3⟩
        refine ⟨i, ?_, h2, h3⟩
        by_cases e : i = k
        · subst e; unfold stt at h3; rw [h] at h3; cases h3
        · omega
    · rw [(jn_yes h).2, List.mem_append, ih]
      constructor
      · rintro (⟨i, h1, h2⟩ | h1)
        · exact ⟨i, by omega, h2⟩
        · simp at h1; exact ⟨k, by omega, h1, h⟩
      · rintro ⟨i, h1, h2, h3⟩
        by_cases e : i = k
        · subst e; exact Or.inr (by simp [h2])
        · exact Or.inl ⟨i, by omega, h2, h3⟩
theorem ln_nodup {R : Tk.Ls} {X : List Int} {J : Jb.Ls} : ∀ k, (ln R X J k).Nodup
  | 0 => by simp [ln]
  | k + 1 => by
    have ih := ln_nodup (R := R) (X := X) (J := J) k
    cases h : cn R X (jn R X J k) k
    · rw [(jn_no h).2]; exact ih
    · rw [(jn_yes h).2, List.nodup_append]
      refine ⟨ih, by simp, fun x hx y hy e => ?_⟩
      obtain ⟨i, h1, h2, _⟩ := (ln_mem k).1 hx
      simp at hy
      omega
theorem jn_hw {R : Tk.Ls} {X : List Int} {J : Jb.Ls} {i : Nat} (hi : i < J.length) : ∀ k, hw (jn R X J k) i = if i < k ∧ stt R X J i = true then 1 else hw J i
  | 0 => by rw [if_neg (by omega)]; rfl
  | k + 1 => by
    have ih := jn_hw (R := R) (X := X) hi k
    cases h : cn R X (jn R X J k) k
    · rw [(jn_no h).1, ih]
      by_cases e : i = k
      · subst e
        rw [if_neg (by omega), if_neg (by unfold stt; rw [h]; simp)]
      · by_cases q : i < k ∧ stt R X J i = true
        · rw [if_pos q, if_pos ⟨by omega, q.2⟩]
        · rw [if_neg q, if_neg (fun z => q ⟨by omega, z.2⟩)]
    · rw [(jn_yes h).1]
      by_cases e : i = k
      · subst e
        rw [if_pos ⟨by omega, h⟩]
        exact (js_hit (by rw [jn_len]; exact hi)).1
      · have := (js_off (J := jn R X J k) (i := k) (k := i) (s := 1) (t := tr (jn R X J k) k + 1) e).1
        show Jb.c0 _ _ = _
        rw [this]
        show hw _ _ = _
        rw [ih]
        by_cases q : i < k ∧ stt R X J i = true
        · rw [if_pos q, if_pos ⟨by omega, q.2⟩]
        · rw [if_neg q, if_neg (fun z => q ⟨by omega, z.2⟩)]
theorem hw_far {J : Jb.Ls} {i : Nat} (h : J.length ≤ i) : hw J i = 0 := by unfold hw Jb.c0; simp [List.getD_eq_getElem?_getD, List.getElem?_eq_none h]
theorem jn_two {R : Tk.Ls} {X : List Int} {J : Jb.Ls} {i k : Nat} (h : hw (jn R X J k) i = 2) : hw J i = 2 := by
  by_cases hi : i < J.length
  · rw [jn_hw hi k] at h
    by_cases q : i < k ∧ stt R X J i = true
    · rw [if_pos q] at h; omega
    · rw [if_neg q] at h; exact h
  · rw [hw_far (by rw [jn_len]; omega)] at h; omega
/-- what starts had waited, and all that it comes behind is done -/
theorem stt_facts {R : Tk.Ls} {X : List Int} {J : Jb.Ls} {i : Nat} (h : stt R X J i = true) : hw J i = 0 ∧ fr R J i = true := by
  unfold stt cn at h
  rw [Bool.and_eq_true, Bool.and_eq_true, beq_iff_eq] at h
  refine ⟨(jn_same i i (Nat.le_refl _)).1.symm.trans h.1, ?_⟩
  have f := h.2.1
  unfold fr at *
  refine all_yes fun m hm => ?_
  have := all_at f m hm
  unfold dn at *
  rw [beq_iff_eq] at this ⊢
  exact jn_two this
/-- the p-th of those that start -/
theorem ln_at {R : Tk.Ls} {X : List Int} {J : Jb.Ls} {n p : Nat} (hp : p < (ln R X J n).length) : ∃ i : Nat, (ln R X J n).getD p 0 = (i : Int) + 1 ∧ i < n ∧ hw J i = 0 ∧ fr R J i = true ∧ ((i : Int) + 1) ∉ (ln R X J n).take p := by
  have hm : (ln R X J n).getD p 0 ∈ ln R X J n := by rw [List.getD_eq_getElem?_getD, List.getElem?_eq_getElem hp]; exact List.getElem_mem hp
  obtain ⟨i, h1, h2, h3⟩ := (ln_mem n).1 hm
  obtain ⟨h4, h5⟩ := stt_facts h3
  refine ⟨i, h2, h1, h4, h5, fun q => ?_⟩
  rw [← h2, List.getD_eq_getElem?_getD, List.getElem?_eq_getElem hp, Option.getD_some] at q
  obtain ⟨j, hj, e⟩ := List.getElem_of_mem q
  rw [List.getElem_take] at e
  have hj' : j < p := by simp at hj; omega
  exact (List.pairwise_iff_getElem.1 (ln_nodup n)) j p (by omega) hp hj' e
/-- who runs when p of those that start are told -/
def rb (R : Tk.Ls) (X : List Int) (J : Jb.Ls) (n p : Nat) : List Bool := (List.range n).map fun i => (hw J i == 1) || decide (((i : Int) + 1) ∈ (ln R X J n).take p)
def rl (J : Jb.Ls) (n : Nat) : List Bool := (List.range n).map fun i => hw J i == 1
def dl (J : Jb.Ls) (n : Nat) : List Int := (List.range n).map fun i => if hw J i = 2 then 1 else 0
theorem rb_zero (R : Tk.Ls) (X : List Int) (J : Jb.Ls) (n : Nat) : rb R X J n 0 = rl J n := by unfold rb rl; simp
theorem rb_end {R : Tk.Ls} {X : List Int} {J : Jb.Ls} {n : Nat} (hn : J.length = n) : rb R X J n (ln R X J n).length = rl (jn R X J n) n := by
  unfold rb rl
  apply List.map_congr_left
  intro i hi
  have hi' : i < n := List.mem_range.1 hi
  rw [List.take_length, jn_hw (by omega) n]
  by_cases q : stt R X J i = true
  · rw [if_pos ⟨hi', q⟩, decide_eq_true ((ln_mem n).2 ⟨i, hi', rfl, q⟩)]
    simp
  · rw [if_neg (fun z => q z.2), decide_eq_false, Bool.or_false]
    intro z
    obtain ⟨j, h1, h2, h3⟩ := (ln_mem n).1 z
    have : j = i := by omega
    subst this
    exact q h3
theorem range_getD {α : Type} (f : Nat → α) (d : α) (n i : Nat) (h : i < n) : ((List.range n).map f).getD i d = f i := by simp [List.getD_eq_getElem?_getD, h]
theorem set_map {α : Type} (f g : Nat → α) (n i : Nat) (v : α) (h1 : g i = v) (h2 : ∀ j, j < n → j ≠ i → g j = f j) : ((List.range n).map f).set i v = (List.range n).map g := by
  apply List.ext_getElem
  · simp
  · intro j hj1 hj2
    rw [List.getElem_set]
    simp at hj2
    split
    · rename_i e; subst e; simp [h1]
    · rename_i e; simp; exact (h2 j hj2 (fun q => e q.symm)).symm
theorem rb_next {R : Tk.Ls} {X : List Int} {J : Jb.Ls} {n p i : Nat} (hp : p < (ln R X J n).length) (hi : (ln R X J n).getD p 0 = (i : Int) + 1) : (rb R X J n p).set i true = rb R X J n (p + 1) := by
  have tk : (ln R X J n).take (p + 1) = (ln R X J n).take p ++ [(i : Int) + 1] := by
    rw [List.take_add_one, List.getElem?_eq_getElem hp]
    rw [List.getD_eq_getElem?_getD, List.getElem?_eq_getElem hp] at hi
    simp at hi
    rw [hi]; rfl
  unfold rb
  refine set_map _ _ n i true ?_ ?_
  · rw [tk]; simp
  · intro j hj e
    rw [tk]
    congr 1
    rw [decide_eq_decide, List.mem_append]
    constructor
    · rintro (q | q)
      · exact q
      · simp at q; omega
    · exact Or.inl
/-- how many of the first k are done -/
def cdn (J : Jb.Ls) : Nat → Nat
  | 0 => 0
  | k + 1 => cdn J k + if hw J k = 2 then 1 else 0
theorem cdn_le (J : Jb.Ls) : ∀ k, cdn J k ≤ k
  | 0 => Nat.le_refl _
  | k + 1 => by have := cdn_le J k; unfold cdn; split <;> omega
theorem cdn_same {J J' : Jb.Ls} : ∀ k, (∀ i, i < k → (hw J' i = 2 ↔ hw J i = 2)) → cdn J' k = cdn J k
  | 0, _ => rfl
  | k + 1, h => by
    have ih := cdn_same k (fun i hi => h i (by omega))
    unfold cdn
    rw [ih]
    by_cases q : hw J k = 2
    · rw [if_pos q, if_pos ((h k (by omega)).2 q)]
    · rw [if_neg q, if_neg (fun z => q ((h k (by omega)).1 z))]
theorem cdn_one {J J' : Jb.Ls} {i : Nat} (h1 : hw J i ≠ 2) (h2 : hw J' i = 2) (h3 : ∀ j, j ≠ i → hw J' j = hw J j) : ∀ k, cdn J' k = cdn J k + if i < k then 1 else 0
  | 0 => by simp [cdn]
  | k + 1 => by
    have ih := cdn_one h1 h2 h3 k
    unfold cdn
    rw [ih]
    by_cases e : k = i
    · subst e
      rw [if_neg (by omega), if_pos h2, if_neg h1, if_pos (by omega)]
    · rw [h3 k e]
      by_cases q : i < k
      · rw [if_pos q, if_pos (show i < k + 1 by omega)]; omega
      · rw [if_neg q, if_neg (show ¬ i < k + 1 by omega)]; omega
theorem jn_cdn {R : Tk.Ls} {X : List Int} {J : Jb.Ls} (n : Nat) (hn : J.length = n) : cdn (jn R X J n) n = cdn J n := cdn_same n fun i hi => by
  constructor
  · exact jn_two
  · intro h
    rw [jn_hw (by omega) n, if_neg]
    · exact h
    · intro q
      have := (stt_facts q.2).1
      omega
/-- nothing runs, and nothing starts -/
def FIN (R : Tk.Ls) (X : List Int) (J : Jb.Ls) (n : Nat) : Prop := (∀ i, i < n → hw J i ≠ 1) ∧ ∀ i, i < n → stt R X J i = false
theorem fin_jn {R : Tk.Ls} {X : List Int} {J : Jb.Ls} {n : Nat} (h : ∀ i, i < n → stt R X J i = false) : ∀ k, k ≤ n → jn R X J k = J
  | 0, _ => rfl
  | k + 1, hk => by
    rw [(jn_no (h k (by omega))).1]
    exact fin_jn h k (by omega)
theorem fin_of {R : Tk.Ls} {X : List Int} {J : Jb.Ls} {n : Nat} (hn : J.length = n) (h : ∀ i, i < n → hw (jn R X J n) i ≠ 1) : FIN R X J n ∧ jn R X J n = J := by
  have hs : ∀ i, i < n → stt R X J i = false := fun i hi => by
    cases q : stt R X J i
    · rfl
    · exact absurd (by rw [jn_hw (by omega) n, if_pos ⟨hi, q⟩]) (h i hi)
  have e := fin_jn hs n (Nat.le_refl _)
  exact ⟨⟨fun i hi => by rw [← e]; exact h i hi, hs⟩, e⟩
/-- a good report of one that runs -/
theorem rep_cdn {R : Tk.Ls} {J : Jb.Ls} {n i : Nat} (hn : J.length = n) (hi : i < n) (h : hw J i = 1) : cdn (rps R J ((i : Int) + 1) true) n = cdn J n + 1 := by
  have e : rps R J ((i : Int) + 1) true = js J i 2 (tr J i) := by
    unfold rps
    rw [show ((i : Int) + 1 - 1).toNat = i by omega, if_pos ⟨by omega, by omega, h⟩]
    rfl
  rw [e]
  have := cdn_one (J := J) (J' := js J i 2 (tr J i)) (i := i) (by omega) (js_hit (by omega)).1 (fun j hj => (js_off hj).1) n
  rw [this, if_pos hi]
/-- what is stuck at last -/
theorem fl_far {R : Tk.Ls} {J : Jb.Ls} {i : Nat} : ∀ k, i < k → fl R J k i = (hw J i == 3 || bst R (fl R J i) i)
  | 0, h => by omega
  | k + 1, h => by
    by_cases e : i = k
    · subst e; exact fl_at R J i
    · rw [fl_off e]; exact fl_far k (by omega)
theorem sl_mem {R : Tk.Ls} {J : Jb.Ls} {x : Int} : ∀ k, x ∈ sl R J k ↔ ∃ i : Nat, i < k ∧ x = (i : Int) + 1 ∧ fl R J k i = true
  | 0 => by simp [sl]
  | k + 1 => by
    have ih := sl_mem (R := R) (J := J) (x := x) k
    cases h : (hw J k == 3 || bst R (fl R J k) k)
    · rw [sl_no h, ih]
      constructor
      · rintro ⟨i, h1, h2, h3⟩; exact ⟨i, by omega, h2, by rw [fl_off (by omega)]; exact h3⟩
      · rintro ⟨i, h1, h2, h3⟩
        by_cases e : i = k
        · subst e; rw [fl_at, h] at h3; cases h3
        · exact ⟨i, by omega, h2, by rw [fl_off e] at h3; exact h3⟩
    · rw [sl_yes h, List.mem_append, ih]
      constructor
      · rintro (⟨i, h1, h2, h3⟩ | h1)
        · exact ⟨i, by omega, h2, by rw [fl_off (by omega)]; exact h3⟩
        · simp at h1; exact ⟨k, by omega, h1, by rw [fl_at]; exact h⟩
      · rintro ⟨i, h1, h2, h3⟩
        by_cases e : i = k
        · subst e; exact Or.inr (by simp [h2])
        · exact Or.inl ⟨i, by omega, h2, by rw [fl_off e] at h3; exact h3⟩
theorem stuck_iff {R : Tk.Ls} {X : List Int} {now : Int} {J : Jb.Ls} (hk : okR R X now J = true) (hF : FIN R X J J.length) : ∀ i, i < J.length → (fl R J (i + 1) i = true ↔ hw J i ≠ 2) := by
  obtain ⟨o1, o2, o3, o4, o5⟩ := okR_iff.1 hk
  have F := fit_of o1
  have aft : ∀ i, i < J.length → ∀ m, m < (Tk.cl R i).length → (((Tk.cl R i).getD m 0) - 1).toNat < i := fun i hi m hm => by have := F.aft i (by omega) m hm; omega
  intro i
  induction i using Nat.strongRecOn with
  | ind i ih =>
    intro hi
    have IH : ∀ m, m < (Tk.cl R i).length → (fl R J i ((Tk.cl R i).getD m 0 - 1).toNat = true ↔ hw J (((Tk.cl R i).getD m 0) - 1).toNat ≠ 2) := fun m hm => by
      have hl := aft i hi m hm
      rw [fl_far i hl, ← fl_at]
      exact ih _ hl (by omega)
    rw [fl_at, Bool.or_eq_true, beq_iff_eq]
    have q := o4 i hi
    unfold jk at q
    constructor
    · rintro (h | h)
      · have h' : hw J i = 3 := h
        omega
      · intro h2
        unfold bst at h
        rw [List.any_eq_true] at h
        obtain ⟨m, hm, hf⟩ := h
        have hm' := List.mem_range.1 hm
        have := (IH m hm').1 hf
        rw [if_neg (by omega), if_pos (Or.inr h2), Bool.and_eq_true] at q
        have f := all_at q.2 m hm'
        unfold dn at f
        rw [beq_iff_eq] at f
        exact this f
    · intro h2
      by_cases h3 : hw J i = 3
      · exact Or.inl h3
      · right
        have h0 : hw J i = 0 := by
          by_cases e0 : hw J i = 0
          · exact e0
          · have := hF.1 i hi
            rw [if_neg e0, if_neg (by omega), if_neg h3] at q
            cases q
        have hs := hF.2 i hi
        unfold stt cn at hs
        rw [fin_jn hF.2 i (by omega)] at hs
        have z : (hw J i == 0) = true := by simpa using h0
        have G := F.grp i (by omega)
        have rr : decide (rn R J (Tk.cz R i 1) J.length < X.getD (Tk.cz R i 1 - 1).toNat 0) = true := by
          rw [decide_eq_true_eq, rn_none _ (fun j hj => hF.1 j hj)]
          have := F.lim (Tk.cz R i 1 - 1).toNat (by omega)
          omega
        rw [z, rr, Bool.true_and, Bool.and_true] at hs
        unfold fr at hs
        rw [List.all_eq_false] at hs
        obtain ⟨m, hm, hf⟩ := hs
        have hm' := List.mem_range.1 hm
        unfold bst
        rw [List.any_eq_true]
        refine ⟨m, hm, (IH m hm').2 ?_⟩
        unfold dn at hf
        simpa using hf
/-- all that is told at last -/
theorem last_told {R : Tk.Ls} {X : List Int} {now : Int} {J : Jb.Ls} {n : Nat} (hk : okR R X now J = true) (hn : J.length = n) (hF : FIN R X J n) {i : Nat} (hi : i < n) : decide (((i : Int) + 1) ∈ sl R J n) = !(hw J i == 2) := by
  subst hn
  have s := stuck_iff hk hF i hi
  rw [Bool.eq_iff_iff, decide_eq_true_eq, sl_mem]
  constructor
  · rintro ⟨j, h1, h2, h3⟩
    have : j = i := by omega
    subst this
    rw [fl_far _ h1, ← fl_at] at h3
    simpa using s.1 h3
  · intro h
    refine ⟨i, hi, rfl, ?_⟩
    rw [fl_far _ hi, ← fl_at]
    exact s.2 (by simpa using h)
theorem rl_new (n m : Nat) : rl (List.replicate m (0, 0)) n = List.replicate n false ∧ dl (List.replicate m (0, 0)) n = List.replicate n 0 := by
  have z : ∀ i, hw (List.replicate m (0, 0)) i = 0 := fun i => by
    unfold hw Jb.c0
    by_cases hi : i < m
    · simp [List.getD_eq_getElem?_getD, hi]
    · simp [List.getD_eq_getElem?_getD, hi]
  constructor
  · unfold rl
    apply List.ext_getElem
    · simp
    · intro i h1 h2; simp [z i]
  · unfold dl
    apply List.ext_getElem
    · simp
    · intro i h1 h2; simp [z i]
theorem rl_crs {J : Jb.Ls} {n : Nat} (hn : J.length = n) : rl (crs J J.length) n = List.replicate n false ∧ dl (crs J J.length) n = dl J n := by
  have z : ∀ i, i < n → hw (crs J J.length) i = if hw J i = 1 then 0 else hw J i := fun i hi => by
    have := (crs_at J J.length i (by omega)).1
    show Jb.c0 _ _ = _
    rw [this]
    by_cases q : hw J i = 1
    · rw [if_pos ⟨by omega, q⟩, if_pos q]
    · rw [if_neg (fun x => q x.2), if_neg q]
  constructor
  · unfold rl
    apply List.ext_getElem
    · simp
    · intro i h1 h2
      simp at h2
      simp [z i h2]
      by_cases q : hw J i = 1
      · simp [q]
      · rw [if_neg q]; exact q
  · unfold dl
    apply List.map_congr_left
    intro i hi
    rw [z i (List.mem_range.1 hi)]
    by_cases q : hw J i = 1
    · rw [if_pos q, q]; rfl
    · rw [if_neg q]
theorem dl_jn {R : Tk.Ls} {X : List Int} {J : Jb.Ls} {n : Nat} (hn : J.length = n) : dl (jn R X J n) n = dl J n := by
  unfold dl
  apply List.map_congr_left
  intro i hi
  have hi' := List.mem_range.1 hi
  by_cases q : hw J i = 2
  · rw [if_pos q, if_pos]
    rw [jn_hw (by omega) n, if_neg]
    · exact q
    · intro z; have := (stt_facts z.2).1; omega
  · rw [if_neg q, if_neg (fun z => q (jn_two z))]
theorem rps_js {R : Tk.Ls} {J : Jb.Ls} {n i : Nat} {ok : Bool} (hn : J.length = n) (hi : i < n) (h : hw J i = 1) : rps R J ((i : Int) + 1) ok = js J i (ez ok (tr J i) (Tk.cz R i 3)) (tr J i) := by
  unfold rps
  rw [show ((i : Int) + 1 - 1).toNat = i by omega, if_pos ⟨by omega, by omega, h⟩]
theorem rl_rps {R : Tk.Ls} {J : Jb.Ls} {n i : Nat} {ok : Bool} (hn : J.length = n) (hi : i < n) (h : hw J i = 1) : (rl J n).set i false = rl (rps R J ((i : Int) + 1) ok) n := by
  rw [rps_js hn hi h]
  unfold rl
  refine set_map _ _ n i false ?_ ?_
  · show (Jb.c0 _ _ == 1) = false
    rw [(js_hit (by omega)).1]
    unfold ez
    cases ok
    · rw [if_neg (by simp)]
      split <;> rfl
    · rfl
  · intro j _ e
    show (Jb.c0 _ _ == 1) = _
    rw [(js_off e).1]
theorem dl_good {R : Tk.Ls} {J : Jb.Ls} {n i : Nat} (hn : J.length = n) (hi : i < n) (h : hw J i = 1) : (dl J n).set i 1 = dl (rps R J ((i : Int) + 1) true) n := by
  rw [rps_js hn hi h]
  unfold dl
  refine set_map _ _ n i 1 ?_ ?_
  · show (if Jb.c0 _ _ = 2 then (1 : Int) else 0) = 1
    rw [(js_hit (by omega)).1]; rfl
  · intro j _ e
    show (if Jb.c0 _ _ = 2 then (1 : Int) else 0) = _
    rw [(js_off e).1]
theorem dl_bad {R : Tk.Ls} {J : Jb.Ls} {n i : Nat} (hn : J.length = n) (hi : i < n) (h : hw J i = 1) : dl (rps R J ((i : Int) + 1) false) n = dl J n := by
  rw [rps_js hn hi h]
  unfold dl
  apply List.map_congr_left
  intro j hj
  by_cases e : j = i
  · subst e
    show (if Jb.c0 _ _ = 2 then (1 : Int) else 0) = _
    rw [(js_hit (by omega)).1, h]
    unfold ez
    by_cases q : tr J j = Tk.cz R j 3
    · simp [q]
    · simp [q]
  · show (if Jb.c0 _ _ = 2 then (1 : Int) else 0) = _
    rw [(js_off e).1]
theorem rl_at {J : Jb.Ls} {n i : Nat} (hi : i < n) : (rl J n).getD i false = (hw J i == 1) := range_getD _ _ _ _ hi
theorem dl_at {J : Jb.Ls} {n i : Nat} (hi : i < n) : (dl J n).getD i 0 = if hw J i = 2 then 1 else 0 := range_getD _ _ _ _ hi
theorem rb_at {R : Tk.Ls} {X : List Int} {J : Jb.Ls} {n p i : Nat} (hi : i < n) : (rb R X J n p).getD i false = ((hw J i == 1) || decide (((i : Int) + 1) ∈ (ln R X J n).take p)) := range_getD _ _ _ _ hi
/-- every task comes up once, from any on -/
theorem turn_all {n : Nat} (hn : 0 < n) (x : Int) {P : Nat → Prop} (h : ∀ q : Nat, q < n → P (((q : Int) + x) % (n : Int)).toNat) : ∀ i, i < n → P i := fun i hi => by
  have h1 := Int.emod_nonneg ((i : Int) - x) (show (n : Int) ≠ 0 by omega)
  have h2 := Int.emod_lt_of_pos ((i : Int) - x) (show (0 : Int) < (n : Int) by omega)
  have := h (((i : Int) - x) % (n : Int)).toNat (by omega)
  rw [show (((((i : Int) - x) % (n : Int)).toNat : Nat) : Int) = ((i : Int) - x) % (n : Int) by omega, Int.emod_add_emod, show (i : Int) - x + x = (i : Int) by omega, Int.emod_eq_of_lt (by omega) (by omega), Int.toNat_natCast] at this
  exact this
end Go.Proofs.Ytfhpomfdkpfooaa.Ty
