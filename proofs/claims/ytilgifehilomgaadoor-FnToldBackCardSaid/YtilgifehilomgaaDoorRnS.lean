/- ReadNumber in the model. -/
import Derived.Test.YtilgifehilomgaaDoorRnP
import Derived.Test.YtilgifehilomgaaDoorTen
import Derived.Test.YtilgifehilomgaaDoorCn
namespace Go.Proofs.YtilgifehilomgaaDoor.Dec
open Go.ChangeShapes Go.WideShapes Go.ChangeAt Go.RowKit Flt

abbrev fb (V : Nat) (B : Bool) (w : World) (e : Ending) (w' : World) : Prop := (∃ x : Nat, e = .returned (.tuple #[.float .f64 x, .bool B]) ∧ cn x = V) ∧ Below w.heap.size w w'

theorem spoint (z : Int) (p : Nat) (w : World) (hz : z.natAbs ≤ 1000000000000000) (hp : p ≤ 6) : Calls Tryd.prog 17 #[.int .i64 z, .int .i64 p] w fun e w' => e = .returned (.string ⟨(tz z p).toArray⟩) ∧ Below w.heap.size w w' := by
  unfold tz
  by_cases h : z < 0
  · rw [if_pos h]
    have e : z = -((z.natAbs : Nat) : Int) := by omega
    have := spoint_neg z.natAbs p w (by omega) hz hp
    rw [← e] at this
    exact this
  · rw [if_neg h]
    have e : z = ((z.natAbs : Nat) : Int) := by omega
    have := spoint_yes z.natAbs p w hz hp
    rw [← e] at this
    exact this

/-- what hangs on the bytes alone -/
structure Ans (l : List UInt8) (V : Nat) (B : Bool) : Prop where
  dead : scan true 0 none l = none → V = 0 ∧ B = false
  bad : ∀ n q, scan true 0 none l = some (n, q) → (q = some 0 ∨ (∃ k, q = some k ∧ 6 < k) ∨ 1000000000000000 < n) → V = 0 ∧ B = false
  yes : ∀ (z : Int) p, z.natAbs ≤ 1000000000000000 → p ≤ 6 → tz z p = l → V = opF .quo (cn (floatOfInt .f64 z)) (cn (tenF p)) ∧ B = true
  no : (∀ (z : Int) p, z.natAbs ≤ 1000000000000000 → p ≤ 6 → tz z p ≠ l) → V = 0 ∧ B = false
theorem ans_ex (l : List UInt8) : ∃ V B, Ans l V B := by
  by_cases h : ∃ (z : Int) (p : Nat), z.natAbs ≤ 1000000000000000 ∧ p ≤ 6 ∧ tz z p = l
  · obtain ⟨z, p, hz, hp, e⟩ := h
    have s := scan_tz z p hz
    rw [e] at s
    refine ⟨opF .quo (cn (floatOfInt .f64 z)) (cn (tenF p)), true, fun x => ?_, fun n q x y => ?_, fun z' p' hz' hp' e' => ?_, fun x => absurd e (x z p hz hp)⟩
    · rw [s] at x; cases x
    · rw [s] at x
      have x := Option.some.inj x
      have x1 : z.natAbs = n := congrArg Prod.fst x
      have x2 : (if p = 0 then none else some p) = q := congrArg Prod.snd x
      rcases y with y | ⟨k, y, yk⟩ | y
      · rw [y] at x2
        by_cases c : p = 0
        · rw [if_pos c] at x2; cases x2
        · rw [if_neg c] at x2; have := Option.some.inj x2; omega
      · rw [y] at x2
        by_cases c : p = 0
        · rw [if_pos c] at x2; cases x2
        · rw [if_neg c] at x2; have := Option.some.inj x2; omega
      · omega
    · obtain ⟨rfl, rfl⟩ := tz_one hz hz' (e.trans e'.symm)
      exact ⟨rfl, rfl⟩
  · exact ⟨0, false, fun _ => ⟨rfl, rfl⟩, fun _ _ _ _ => ⟨rfl, rfl⟩, fun z p hz hp e => absurd ⟨z, p, hz, hp, e⟩ h, fun _ => ⟨rfl, rfl⟩⟩

def qz (q : Option Nat) : Int := match q with | some k => (k : Int) | none => -1
theorem scan_cons (f : Bool) (n : Nat) (q : Option Nat) (b : UInt8) (l : List UInt8) : scan f n q (b :: l) = if b = 46 ∧ q = none then scan false n (some 0) l
    else if isD b then (if 1000000000000000 < n then none else scan false (n * 10 + (b.toNat - 48)) (q.map (· + 1)) l)
    else if f = true ∧ b = 45 then scan false n q l else none := rfl
theorem drop_at (s : ByteArray) (i : Nat) (hi : i < s.size) : s.data.toList.drop i = s[i] :: s.data.toList.drop (i + 1) := by
  rw [List.drop_eq_getElem_cons (by simpa using hi)]
  rfl
theorem idx9 (w : World) (s : ByteArray) (k : Nat) (hk : k < s.size) :
    (Instr.index 9 (.string s) (.int .i64 (k : Int))).run Tryd.prog w = .ok (.int .u8 (s[k].toNat : Int)) w := by
  rw [run_index_string w 9 s .i64 (k : Int) Tryd.underlying9]
  simp [hk]
theorem cand {l : List UInt8} {n : Nat} {q : Option Nat} (hs : scan true 0 none l = some (n, q)) {z' : Int} {p' : Nat} (hz' : z'.natAbs ≤ 1000000000000000) (e : tz z' p' = l) : z' = (if l.head? = some 45 then -(n : Int) else n) ∧ p' = q.getD 0 := by
  have s1 := scan_tz z' p' hz'
  have h1 := tz_head z' p'
  rw [e] at s1 h1
  rw [hs] at s1
  have x := Option.some.inj s1
  have x1 : n = z'.natAbs := congrArg Prod.fst x
  have x2 : q = (if p' = 0 then none else some p') := congrArg Prod.snd x
  refine ⟨?_, ?_⟩
  · by_cases c : l.head? = some 45
    · rw [if_pos c]; have := h1.1 c; omega
    · rw [if_neg c]; have : ¬ z' < 0 := fun y => c (h1.2 y); omega
  · rw [x2]
    by_cases c : p' = 0
    · rw [if_pos c]; exact c
    · rw [if_neg c]; rfl
end Go.Proofs.YtilgifehilomgaaDoor.Dec
