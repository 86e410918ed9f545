/- Floats told but for which missing number they are: an operation of float64 as a function on such. -/
import Derived.Test.YtfjkchkcgnjkaaaKnownC
import Derived.Deep.Draws
namespace Go.Proofs.Ytfjkchkcgnjkaaa.Flt
open Go.ChangeShapes Go.WideShapes Go.ChangeAt Go.RowKit

def qn : Nat := 9221120237041090561
def cn (x : Nat) : Nat := if nan x then qn else x
def opF (op : BinOp) (x y : Nat) : Nat := (floatBits op .f64 x y).getD qn
def Arith (op : BinOp) : Prop := op = .add ∨ op = .sub ∨ op = .mul ∨ op = .quo
def opB (op : BinOp) (x y : Nat) (w : World) : Nat := match floatBits op .f64 x y with
  | some r => r
  | none => Question.cut (.nanBits .f64 x y) (w.tape w.drawn (.nanBits .f64 x y))
def opD (op : BinOp) (x y : Nat) : Nat := if (floatBits op .f64 x y).isSome then 0 else 1

theorem cut_nan (x y : Nat) (T : Nat) : nan (Question.cut (.nanBits .f64 x y) T) = true ∧ Question.cut (.nanBits .f64 x y) T < 18446744073709551616 := by
  have hT : T % 2 = 0 ∨ T % 2 = 1 := by omega
  constructor
  · refine decide_eq_true ?_
    simp [Question.cut, rng]
    rcases hT with hT | hT <;> rw [hT] <;> omega
  · simp [Question.cut]; omega

theorem run_op (P : Program) (op : BinOp) (hop : Arith op) (t : TypeId) (x y : Nat) (w : World) :
    (binOp op t (.float .f64 x) (.float .f64 y)).run P w = .ok (.float .f64 (opB op x y w)) (w.drewN (opD op x y)) := by
  cases h : floatBits op .f64 x y with
  | some r =>
    have e1 : opB op x y w = r := by unfold opB; rw [h]
    have e2 : opD op x y = 0 := by unfold opD; rw [h]; rfl
    rw [e1, e2]
    exact run_float_arith w op t .f64 x y r h
  | none =>
    have e1 : opB op x y w = Question.cut (.nanBits .f64 x y) (w.tape w.drawn (.nanBits .f64 x y)) := by unfold opB; rw [h]
    have e2 : opD op x y = 1 := by unfold opD; rw [h]; rfl
    rw [e1, e2]
    unfold floatBits at h
    rcases hop with rfl | rfl | rfl | rfl <;> simp only at h <;> simp [binOp, Op.floatArith, h, Question.forced] <;> rfl

theorem cn_nan {x : Nat} (h : nan x = true) : cn x = qn := by unfold cn; rw [if_pos h]
theorem cn_num {x : Nat} (h : nan x = false) : cn x = x := by unfold cn; rw [if_neg (by simp [h])]
theorem nan_qn : nan qn = true := by decide +kernel
theorem nan_cn (x : Nat) : nan (cn x) = nan x := by
  cases h : nan x
  · rw [cn_num h, h]
  · rw [cn_nan h, nan_qn]
theorem cn_cn (x : Nat) : cn (cn x) = cn x := by
  cases h : nan x
  · rw [cn_num h, cn_num h]
  · rw [cn_nan h]; decide +kernel
theorem read_of_nan {x : Nat} (h : nan x = true) : ∃ s p, Ieee.double.read x = .nan s p := ⟨_, _, read_nan x (by unfold nan at h; simpa using h)⟩
theorem read_of_num {x : Nat} (h : nan x = false) : (∃ s, Ieee.double.read x = .infinity s) ∨ ∃ s m p, Ieee.double.read x = .number s m p := by
  have h' : rng x ≤ 9218868437227405312 := by unfold nan at h; simpa using h
  by_cases e : rng x = 9218868437227405312
  · exact .inl ⟨_, read_inf x e⟩
  · obtain ⟨m, a, e, _⟩ := read_fin x (by omega); exact .inr ⟨_, _, _, e⟩

theorem bits_nan (op : BinOp) {x y : Nat} (h : nan x = true ∨ nan y = true) : floatBits op .f64 x y = none := by
  rcases h with h | h
  · obtain ⟨s, p, e⟩ := read_of_nan h
    cases op <;> try rfl
    · show Ieee.double.add x y = none; unfold Ieee.Format.add; rw [e]; rfl
    · show Ieee.double.sub x y = none; unfold Ieee.Format.sub; rw [e]; rfl
    · show Ieee.double.mul x y = none; unfold Ieee.Format.mul; rw [e]; rfl
    · show Ieee.double.div x y = none; unfold Ieee.Format.div; rw [e]; rfl
  · obtain ⟨s, p, e⟩ := read_of_nan h
    cases op <;> try rfl
    · show Ieee.double.add x y = none; unfold Ieee.Format.add; rw [e]; cases Ieee.double.read x <;> rfl
    · show Ieee.double.sub x y = none; unfold Ieee.Format.sub; rw [e]; cases Ieee.double.read x <;> rfl
    · show Ieee.double.mul x y = none; unfold Ieee.Format.mul; rw [e]; cases Ieee.double.read x <;> rfl
    · show Ieee.double.div x y = none; unfold Ieee.Format.div; rw [e]; cases Ieee.double.read x <;> rfl

/-- What is no missing number is written as none. -/
def Real (d : Ieee.Datum) : Prop := match d with | .nan _ _ => False | _ => True
theorem write_num (d : Ieee.Datum) (h : Real d) : rng (Ieee.double.write d) ≤ 9218868437227405312 ∧ Ieee.double.write d < 18446744073709551616 := by
  cases d with
  | nan s p => exact absurd h id
  | infinity s => exact winf_rng s
  | number s m p => exact nearest_rng s m p
theorem sum_real (a b d : Ieee.Datum) (h : a.sum b = some d) : Real d := by
  cases a <;> cases b <;> simp [Ieee.Datum.sum] at h
  all_goals first | (obtain ⟨_, rfl⟩ := h; trivial) | (subst h; trivial)
theorem product_real (a b d : Ieee.Datum) (h : a.product b = some d) : Real d := by
  cases a <;> cases b <;> simp [Ieee.Datum.product] at h
  all_goals first | (obtain ⟨_, rfl⟩ := h; trivial) | (subst h; trivial)
theorem quotient_real (k : Nat) (a b d : Ieee.Datum) (h : a.quotient k b = some d) : Real d := by
  cases a <;> cases b <;> simp only [Ieee.Datum.quotient] at h
  all_goals first | (cases h; done) | (cases h; trivial) | skip
  all_goals split at h
  all_goals first | (split at h; first | (cases h; done) | (cases h; trivial)) | (cases h; trivial) | skip
  all_goals (split at h <;> first | (cases h; done) | (cases h; trivial))

theorem bits_num (op : BinOp) {x y r : Nat} (h : floatBits op .f64 x y = some r) : nan r = false ∧ r < 18446744073709551616 := by
  have key : ∃ d, Real d ∧ r = Ieee.double.write d := by
    cases op <;> first | (cases h; done) | skip
    · have h : Ieee.double.add x y = some r := h
      unfold Ieee.Format.add at h
      obtain ⟨d, h1, h2⟩ := Option.map_eq_some_iff.1 h
      exact ⟨d, sum_real _ _ _ h1, h2.symm⟩
    · have h : Ieee.double.sub x y = some r := h
      unfold Ieee.Format.sub at h
      obtain ⟨d, h1, h2⟩ := Option.map_eq_some_iff.1 h
      exact ⟨d, sum_real _ _ _ h1, h2.symm⟩
    · have h : Ieee.double.mul x y = some r := h
      unfold Ieee.Format.mul at h
      obtain ⟨d, h1, h2⟩ := Option.map_eq_some_iff.1 h
      exact ⟨d, product_real _ _ _ h1, h2.symm⟩
    · have h : Ieee.double.div x y = some r := h
      unfold Ieee.Format.div at h
      obtain ⟨d, h1, h2⟩ := Option.map_eq_some_iff.1 h
      exact ⟨d, quotient_real _ _ _ _ h1, h2.symm⟩
  obtain ⟨d, hd, rfl⟩ := key
  have := write_num d hd
  exact ⟨by unfold nan; exact decide_eq_false (by omega), this.2⟩

theorem cn_op (op : BinOp) (x y : Nat) (w : World) : cn (opB op x y w) = opF op (cn x) (cn y) := by
  by_cases hn : nan x = true ∨ nan y = true
  · have e1 := bits_nan op hn
    have e2 : floatBits op .f64 (cn x) (cn y) = none := bits_nan op (by rw [nan_cn, nan_cn]; exact hn)
    unfold opB opF
    rw [e1, e2]
    exact cn_nan (cut_nan x y _).1
  · have hx : nan x = false := by cases h : nan x <;> simp_all
    have hy : nan y = false := by cases h : nan y <;> simp_all
    rw [cn_num hx, cn_num hy]
    unfold opB opF
    cases h : floatBits op .f64 x y with
    | some r => exact cn_num (bits_num op h).1
    | none => exact cn_nan (cut_nan x y _).1
theorem op_lt (op : BinOp) (x y : Nat) (w : World) : opB op x y w < 18446744073709551616 := by
  unfold opB
  cases h : floatBits op .f64 x y with
  | some r => exact (bits_num op h).2
  | none => exact (cut_nan x y _).2

theorem sum_comm (a b : Ieee.Datum) : a.sum b = b.sum a := by
  cases a <;> cases b <;> simp only [Ieee.Datum.sum]
  · rename_i s m i t n j
    rw [Int.min_comm i j, Int.add_comm, Bool.and_comm]
  · rename_i s t
    by_cases h : s = t
    · rw [if_pos h, if_pos h.symm, h]
    · rw [if_neg h, if_neg (fun e => h e.symm)]
theorem add_comm (x y : Nat) : opF .add x y = opF .add y x := by
  show (Ieee.double.add x y).getD qn = (Ieee.double.add y x).getD qn
  unfold Ieee.Format.add
  rw [sum_comm]

theorem ord_cn (x y : Nat) : ord (cn x) (cn y) = ord x y := by
  by_cases hn : nan x = true ∨ nan y = true
  · have f : ∀ a b, nan a = true ∨ nan b = true → ord a b = none := fun a b h => order_nan a b (by unfold nan at h; simpa using h)
    rw [f _ _ hn, f _ _ (by rw [nan_cn, nan_cn]; exact hn)]
  · have hx : nan x = false := by cases h : nan x <;> simp_all
    have hy : nan y = false := by cases h : nan y <;> simp_all
    rw [cn_num hx, cn_num hy]

theorem sf_cn (x y : Nat) (w : World) (h : cn x = cn y) : Calls Try.prog 17 #[.float .f64 x, .float .f64 y] w fun e w' => e = .returned (.bool true) ∧ w' = w := by
  cases hx : nan x
  · have hy : nan y = false := by rw [← nan_cn, ← h, nan_cn, hx]
    rw [cn_num hx, cn_num hy] at h
    subst h
    exact sf_same x w
  · have hy : nan y = true := by rw [← nan_cn, ← h, nan_cn, hx]
    exact sf_nan x y w hx hy
end Go.Proofs.Ytfjkchkcgnjkaaa.Flt
