/- Numbers that are told, and what a reader finds in them: plain. -/
import Derived.Test.YtilgifehilomgaaDoorPt
import Derived.Lib.ParseIntB
import Derived.Lib.CutLaws
import Derived.Lib.IndexBytes
namespace Go.Proofs.YtilgifehilomgaaDoor.Dec
open Go.RowKit

def isD (b : UInt8) : Bool := decide (48 ≤ b.toNat) && decide (b.toNat ≤ 57)
/-- the digits of a list taken one by one -/
def val (n : Nat) (l : List UInt8) : Nat := l.foldl (fun a b => a * 10 + (b.toNat - 48)) n
theorem val_app (n : Nat) (a b : List UInt8) : val n (a ++ b) = val (val n a) b := by simp [val, List.foldl_append]
theorem dgt_nat (m : Nat) : (dgt m).toNat = 48 + m % 10 := by
  have := digit_cell m
  omega
theorem dec_val (n : Nat) : val 0 (Lib.decDigits n) = n ∧ (Lib.decDigits n).all isD = true := by
  induction n using Nat.strongRecOn with
  | _ n ih =>
    rw [Lib.decDigits]
    by_cases c : n < 10
    · rw [dif_pos c]
      have e : (UInt8.ofNat (48 + n)).toNat = 48 + n := by rw [UInt8.toNat_ofNat']; omega
      refine ⟨?_, ?_⟩
      · show 0 * 10 + ((UInt8.ofNat (48 + n)).toNat - 48) = n
        rw [e]; omega
      · simp [isD]; omega
    · rw [dif_neg c]
      obtain ⟨i1, i2⟩ := ih (n / 10) (by omega)
      have e : (UInt8.ofNat (48 + n % 10)).toNat = 48 + n % 10 := by rw [UInt8.toNat_ofNat']; omega
      refine ⟨?_, ?_⟩
      · rw [val_app, i1]
        show n / 10 * 10 + ((UInt8.ofNat (48 + n % 10)).toNat - 48) = n
        rw [e]; omega
      · rw [List.all_append, i2]
        simp [isD]; omega
theorem zeros_val (k : Nat) : val 0 (List.replicate k 48) = 0 := by
  induction k with
  | zero => rfl
  | succ k ih =>
    rw [List.replicate_succ]
    show val (0 * 10 + ((48 : UInt8).toNat - 48)) (List.replicate k 48) = 0
    exact ih
theorem pad_val (k n : Nat) : val 0 (pad k (Lib.decDigits n)) = n ∧ (pad k (Lib.decDigits n)).all isD = true := by
  unfold pad
  rw [val_app, zeros_val, List.all_append]
  refine ⟨(dec_val n).1, ?_⟩
  rw [(dec_val n).2, Bool.and_true]
  simp [isD]
theorem val_mono (l : List UInt8) : ∀ n, n ≤ val n l := by
  induction l with
  | nil => intro n; exact Nat.le_refl _
  | cons b l ih =>
    intro n
    show n ≤ val (n * 10 + (b.toNat - 48)) l
    have := ih (n * 10 + (b.toNat - 48))
    omega

/-- the model's reading, byte by byte: the number, and the places behind a point -/
def scan : Bool → Nat → Option Nat → List UInt8 → Option (Nat × Option Nat)
  | _, n, q, [] => some (n, q)
  | f, n, q, b :: l =>
    if b = 46 ∧ q = none then scan false n (some 0) l
    else if isD b then (if 1000000000000000 < n then none else scan false (n * 10 + (b.toNat - 48)) (q.map (· + 1)) l)
    else if f = true ∧ b = 45 then scan false n q l else none
theorem isD_ne {b : UInt8} (h : isD b = true) : b ≠ 46 ∧ b ≠ 45 := by
  unfold isD at h
  simp at h
  refine ⟨fun e => ?_, fun e => ?_⟩
  · rw [e] at h; exact absurd h (by decide)
  · rw [e] at h; exact absurd h (by decide)
theorem scan_digits (l : List UInt8) : ∀ (f : Bool) (n : Nat) (q : Option Nat) (r : List UInt8), l.all isD = true → val n l ≤ 1000000000000000 → scan f n q (l ++ r) = scan (f && l.isEmpty) (val n l) (q.map (· + l.length)) r := by
  induction l with
  | nil =>
    intro f n q r _ _
    cases q <;> simp [val]
  | cons b l ih =>
    intro f n q r h1 h2
    simp only [List.all_cons, Bool.and_eq_true] at h1
    have hv : val n (b :: l) = val (n * 10 + (b.toNat - 48)) l := rfl
    rw [hv] at h2 ⊢
    have m1 := val_mono l (n * 10 + (b.toNat - 48))
    have e1 := (isD_ne h1.1).1
    rw [List.cons_append]
    conv => lhs; unfold scan
    rw [if_neg (fun x => e1 x.1), if_pos h1.1, if_neg (by omega), ih false _ _ r h1.2 h2]
    have e2 : (q.map (· + 1)).map (· + l.length) = q.map (· + (b :: l).length) := by
      cases q with
      | none => rfl
      | some x => simp; omega
    rw [e2]
    simp
theorem scan_sign (l : List UInt8) (q : Option Nat) : scan true 0 q (45 :: l) = scan false 0 q l := by
  conv => lhs; unfold scan
  rw [if_neg (fun x => absurd x.1 (by decide)), if_neg (by decide), if_pos ⟨rfl, rfl⟩]
theorem scan_point (f : Bool) (n : Nat) (l : List UInt8) : scan f n none (46 :: l) = scan false n (some 0) l := by
  conv => lhs; unfold scan
  rw [if_pos ⟨rfl, rfl⟩]

theorem scan_body (f : Bool) (n p : Nat) (hn : n ≤ 1000000000000000) : scan f 0 none (pnt [] (Lib.decDigits n) p) = some (n, if p = 0 then none else some p) := by
  unfold pnt
  by_cases hp : p = 0
  · rw [if_pos hp, if_pos hp, List.nil_append]
    obtain ⟨v, a⟩ := dec_val n
    have := scan_digits (Lib.decDigits n) f 0 none [] a (by omega)
    rw [List.append_nil] at this
    rw [this, v]
    rfl
  · rw [if_neg hp, if_neg hp, List.nil_append]
    obtain ⟨v, a⟩ := pad_val (p + 1) n
    have pl := pad_len' (p + 1) (Lib.decDigits n)
    generalize pad (p + 1) (Lib.decDigits n) = D at *
    obtain ⟨k, hk⟩ : ∃ k, D.length - p = k := ⟨_, rfl⟩
    rw [hk]
    have sp : D = D.take k ++ D.drop k := (List.take_append_drop k D).symm
    have a1 : (D.take k).all isD = true := by rw [sp, List.all_append, Bool.and_eq_true] at a; exact a.1
    have a2 : (D.drop k).all isD = true := by rw [sp, List.all_append, Bool.and_eq_true] at a; exact a.2
    have v2 : val (val 0 (D.take k)) (D.drop k) = n := by rw [← val_app, ← sp]; exact v
    have m := val_mono (D.drop k) (val 0 (D.take k))
    rw [List.append_assoc, scan_digits (D.take k) f 0 none _ a1 (by omega)]
    show scan _ _ none (46 :: D.drop k) = _
    rw [scan_point]
    have := scan_digits (D.drop k) false (val 0 (D.take k)) (some 0) [] a2 (by omega)
    rw [List.append_nil] at this
    rw [this, v2]
    have ld : (D.drop k).length = p := by rw [List.length_drop]; omega
    show some (n, some (0 + (D.drop k).length)) = _
    rw [ld, Nat.zero_add]

/-- the text of a number with its sign -/
def tz (z : Int) (p : Nat) : List UInt8 := if z < 0 then pnt [45] (Lib.decDigits z.natAbs) p else pnt [] (Lib.decDigits z.natAbs) p
theorem pnt_sign (D : List UInt8) (p : Nat) : pnt [45] D p = 45 :: pnt [] D p := by
  unfold pnt
  split <;> simp
theorem scan_tz (z : Int) (p : Nat) (hz : z.natAbs ≤ 1000000000000000) : scan true 0 none (tz z p) = some (z.natAbs, if p = 0 then none else some p) := by
  unfold tz
  split
  · rw [pnt_sign, scan_sign, scan_body false _ p hz]
  · exact scan_body true _ p hz
theorem body_head (n p : Nat) : ∃ b l, pnt [] (Lib.decDigits n) p = b :: l ∧ isD b = true := by
  unfold pnt
  split
  · have h := dec_pos n
    have a := (dec_val n).2
    rw [List.nil_append]
    cases hd : Lib.decDigits n with
    | nil => rw [hd] at h; exact absurd h (by decide)
    | cons b l => rw [hd] at a; simp only [List.all_cons, Bool.and_eq_true] at a; exact ⟨b, l, rfl, a.1⟩
  · have a := (pad_val (p + 1) n).2
    have pl := pad_len' (p + 1) (Lib.decDigits n)
    rw [List.nil_append]
    generalize pad (p + 1) (Lib.decDigits n) = D at *
    obtain ⟨k, hk⟩ : ∃ k, D.length - p = k + 1 := ⟨D.length - p - 1, by omega⟩
    rw [hk]
    cases D with
    | nil => simp at hk
    | cons b l => simp only [List.all_cons, Bool.and_eq_true] at a; exact ⟨b, _, rfl, a.1⟩
theorem tz_head (z : Int) (p : Nat) : ((tz z p).head? = some 45) ↔ z < 0 := by
  unfold tz
  obtain ⟨b, l, e, hb⟩ := body_head z.natAbs p
  split
  · rw [pnt_sign]; simp; assumption
  · rename_i h
    rw [e]
    refine ⟨fun x => ?_, fun x => absurd x h⟩
    have : b = 45 := by simpa using x
    exact absurd this (isD_ne hb).2
theorem tz_one {z z' : Int} {p p' : Nat} (hz : z.natAbs ≤ 1000000000000000) (hz' : z'.natAbs ≤ 1000000000000000) (h : tz z p = tz z' p') : z = z' ∧ p = p' := by
  have s1 := scan_tz z p hz
  have s2 := scan_tz z' p' hz'
  have h1 := tz_head z p
  have h2 := tz_head z' p'
  rw [h] at s1 h1
  rw [s1] at s2
  have e := Option.some.inj s2
  have ea : z.natAbs = z'.natAbs := congrArg Prod.fst e
  have ep : (if p = 0 then none else some p) = (if p' = 0 then none else some p') := congrArg Prod.snd e
  refine ⟨?_, ?_⟩
  · have : z < 0 ↔ z' < 0 := h1.symm.trans h2
    omega
  · by_cases c : p = 0
    · rw [if_pos c] at ep
      by_cases c' : p' = 0
      · omega
      · rw [if_neg c'] at ep; cases ep
    · rw [if_neg c] at ep
      by_cases c' : p' = 0
      · rw [if_pos c'] at ep; cases ep
      · rw [if_neg c'] at ep; exact Option.some.inj ep
theorem tz_len (z : Int) (p : Nat) (hz : z.natAbs ≤ 1000000000000000) (hp : p ≤ 6) : (tz z p).length ≤ 30 := by
  have l0 := dec_len16 z.natAbs hz
  have l1 := pad_len' (p + 1) (Lib.decDigits z.natAbs)
  unfold tz pnt
  split <;> split <;> simp <;> omega

theorem idx_at (a b : List UInt8) (h : ∀ x ∈ a, x ≠ 46) : Lib.index (a ++ 46 :: b) [46] = a.length := by
  refine Lib.index_first (by simp) ?_ ?_
  · unfold Lib.occAt
    rw [List.drop_left]
    simp
  · intro j hj
    unfold Lib.occAt
    rw [List.drop_append_of_le_length (by omega), List.drop_eq_getElem_cons hj]
    have := h a[j] (List.getElem_mem hj)
    show ((46 : UInt8) == a[j] && List.isPrefixOf [] (List.drop (j + 1) a ++ 46 :: b)) = false
    rw [beq_eq_false_iff_ne.2 (Ne.symm this)]
    rfl
theorem idx_no (a : List UInt8) (h : ∀ x ∈ a, x ≠ 46) : Lib.index a [46] = -1 := by
  refine Lib.index_none ?_
  intro j _
  unfold Lib.occAt
  cases hd : a.drop j with
  | nil => rfl
  | cons x r =>
    have hx : x ∈ a := List.mem_of_mem_drop (by rw [hd]; exact List.mem_cons_self)
    show ((46 : UInt8) == x && List.isPrefixOf [] r) = false
    rw [beq_eq_false_iff_ne.2 (Ne.symm (h x hx))]
    rfl
theorem no_point {l : List UInt8} (h : l.all isD = true) : ∀ x ∈ l, x ≠ 46 := fun x hx => (isD_ne (List.all_eq_true.1 h x hx)).1

/-- sign, then digits, cut at the point: what stands ahead of it and behind it -/
structure Cutz (z : Int) (p : Nat) (S D : List UInt8) : Prop where
  sign : S = [] ∧ 0 ≤ z ∨ S = [45] ∧ z < 0
  dig : D.all isD = true
  val : val 0 D = z.natAbs
  some : D ≠ []
  cut : ∃ k, Lib.cut (tz z p) [46] = (S ++ D.take k, D.drop k, decide (0 < p)) ∧ (D.drop k).length = p
theorem cutz (z : Int) (p : Nat) : ∃ S D, Cutz z p S D := by
  have hs : ∃ S, (S = [] ∧ 0 ≤ z ∨ S = [45] ∧ z < 0) ∧ tz z p = S ++ pnt [] (Lib.decDigits z.natAbs) p := by
    unfold tz
    by_cases h : z < 0
    · exact ⟨[45], .inr ⟨rfl, h⟩, by rw [if_pos h, pnt_sign]; rfl⟩
    · exact ⟨[], .inl ⟨rfl, by omega⟩, by rw [if_neg h]; rfl⟩
  obtain ⟨S, hS, e⟩ := hs
  have nS : ∀ x ∈ S, x ≠ 46 := by
    rcases hS with ⟨rfl, _⟩ | ⟨rfl, _⟩
    · intro x hx; cases hx
    · intro x hx; rw [List.mem_singleton.1 hx]; decide
  by_cases hp : p = 0
  · obtain ⟨v, a⟩ := dec_val z.natAbs
    have h0 := dec_pos z.natAbs
    have e2 : pnt [] (Lib.decDigits z.natAbs) p = Lib.decDigits z.natAbs := by unfold pnt; rw [if_pos hp]; rfl
    rw [e2] at e
    generalize Lib.decDigits z.natAbs = D at *
    refine ⟨S, D, hS, a, v, fun c => by rw [c] at h0; exact absurd h0 (by decide), D.length, ?_, by simp; omega⟩
    rw [e]
    have hn : ∀ x ∈ S ++ D, x ≠ 46 := fun x hx => by
      rcases List.mem_append.1 hx with h | h
      · exact nS x h
      · exact no_point a x h
    unfold Lib.cut
    rw [idx_no _ hn, if_neg (by decide), List.take_length, List.drop_length, decide_eq_false (by omega)]
  · obtain ⟨v, a⟩ := pad_val (p + 1) z.natAbs
    have pl := pad_len' (p + 1) (Lib.decDigits z.natAbs)
    have e2 : pnt [] (Lib.decDigits z.natAbs) p = (pad (p + 1) (Lib.decDigits z.natAbs)).take ((pad (p + 1) (Lib.decDigits z.natAbs)).length - p) ++ [46] ++ (pad (p + 1) (Lib.decDigits z.natAbs)).drop ((pad (p + 1) (Lib.decDigits z.natAbs)).length - p) := by unfold pnt; rw [if_neg hp]; rfl
    rw [e2] at e
    generalize pad (p + 1) (Lib.decDigits z.natAbs) = D at *
    refine ⟨S, D, hS, a, v, fun c => by rw [c] at pl; simp at pl, D.length - p, ?_, by rw [List.length_drop]; omega⟩
    rw [e]
    have hn : ∀ x ∈ S ++ D.take (D.length - p), x ≠ 46 := fun x hx => by
      rcases List.mem_append.1 hx with h | h
      · exact nS x h
      · exact no_point a x (List.mem_of_mem_take h)
    have e3 : S ++ (D.take (D.length - p) ++ [46] ++ D.drop (D.length - p)) = (S ++ D.take (D.length - p)) ++ 46 :: D.drop (D.length - p) := by simp
    rw [e3]
    generalize S ++ D.take (D.length - p) = A at *
    unfold Lib.cut
    rw [idx_at A _ hn, if_pos (by omega)]
    have e4 : ((A.length : Int)).toNat = A.length := by omega
    rw [e4, List.take_left, decide_eq_true (by omega)]
    have e5 : (A ++ 46 :: D.drop (D.length - p)).drop (A.length + [(46 : UInt8)].length) = D.drop (D.length - p) := by
      rw [show A ++ 46 :: D.drop (D.length - p) = (A ++ [46]) ++ D.drop (D.length - p) by simp]
      exact List.drop_left' (by simp)
    rw [e5]

theorem parseM (M : Nat) (hM : 1000000000000000 ≤ M) (l : List UInt8) : ∀ acc, l.all isD = true → val acc l ≤ 1000000000000000 → Lib.parseUintM M acc l = .ok (val acc l) := by
  induction l with
  | nil => intro acc _ _; rfl
  | cons b l ih =>
    intro acc h1 h2
    simp only [List.all_cons, Bool.and_eq_true] at h1
    have hb := h1.1
    unfold isD at hb
    simp at hb
    have hv : val acc (b :: l) = val (acc * 10 + (b.toNat - 48)) l := rfl
    rw [hv] at h2 ⊢
    have m := val_mono l (acc * 10 + (b.toNat - 48))
    unfold Lib.parseUintM
    rw [if_pos hb, if_neg (by omega), if_neg (by omega), ih _ h1.2 h2]
theorem parse_tz {z : Int} {S D : List UInt8} (hS : S = [] ∧ 0 ≤ z ∨ S = [45] ∧ z < 0) (hd : D.all isD = true) (hv : val 0 D = z.natAbs) (h0 : D ≠ []) (hz : z.natAbs ≤ 1000000000000000) : Lib.parseIntB 64 (S ++ D) = .ok z := by
  have hu : Lib.parseUintB 64 D = .ok z.natAbs := by
    unfold Lib.parseUintB
    rw [if_neg h0, parseM _ (by decide) D 0 hd (by omega), hv]
  have p1 : (2 : Nat) ^ (64 - 1) = 9223372036854775808 := by decide
  rcases hS with ⟨rfl, h⟩ | ⟨rfl, h⟩
  · cases D with
    | nil => exact absurd rfl h0
    | cons c r =>
      simp only [List.all_cons, Bool.and_eq_true] at hd
      have hb := hd.1
      unfold isD at hb
      simp at hb
      rw [List.nil_append]
      unfold Lib.parseIntB
      dsimp only
      rw [if_neg (show ¬ (c.toNat = 43 ∨ c.toNat = 45) by omega), hu]
      dsimp only
      rw [if_neg (by rw [p1]; omega), if_neg (by omega), if_neg (by omega)]
      congr 1
      omega
  · show Lib.parseIntB 64 (45 :: D) = _
    unfold Lib.parseIntB
    dsimp only
    rw [if_pos (.inr (by decide)), hu]
    dsimp only
    have e45 : (45 : UInt8).toNat = 45 := rfl
    rw [if_neg (by rw [e45]; simp), if_neg (by rw [p1]; omega), if_pos e45]
    congr 1
    omega
end Go.Proofs.YtilgifehilomgaaDoor.Dec
