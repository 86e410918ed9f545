/- The tongues: a map that the call makes. -/
import Derived.Test.YtnbhfjcpimdnlaaDoorPo
import Derived.Maps.OwnSet
import Derived.Maps.Views
namespace Go.Proofs.YtnbhfjcpimdnlaaDoor.Ph
open Go.ChangeShapes Go.WideShapes Go.ChangeAt Go.RowKit
open Go.Maps (Keyed)
def str? : Value → Option ByteArray
  | .string s => some s
  | _ => none
def RE : Value → Option (DataW Unit × List MemPlace)
  | .agg a => (a.toList.mapM str?).map fun l => (.agg (l.map fun s => .lit (.string s.data.toList)), [])
  | _ => none
theorem str_inv : ∀ (xs : List Value) (l : List ByteArray), xs.mapM str? = some l → xs = l.map .string
  | [], l, h => by simp at h; subst h; rfl
  | x :: xs, l, h => by
    rw [List.mapM_cons] at h
    cases hx : str? x with
    | none => rw [hx] at h; cases h
    | some s =>
      rw [hx] at h
      cases hr : xs.mapM str? with
      | none => rw [hr] at h; cases h
      | some l' =>
        rw [hr] at h
        cases h
        have e : x = .string s := by unfold str? at hx; split at hx <;> simp_all
        rw [e, str_inv xs l' hr]
        rfl
def dat (L : List (List UInt8)) : DataW Unit := .agg (L.map fun s => .lit (.string s))
def lex (L : List (List UInt8)) : Value := .agg (L.map fun s => Value.string ⟨s.toArray⟩).toArray
theorem str_map (L : List (List UInt8)) : (L.map fun s => Value.string ⟨s.toArray⟩).mapM str? = some (L.map fun s => (⟨s.toArray⟩ : ByteArray)) := by
  induction L with
  | nil => rfl
  | cons a r ih => rw [List.map_cons, List.mapM_cons, ih]; rfl
theorem RE_lex (L : List (List UInt8)) : RE (lex L) = some (dat L, []) := by
  show ((L.map fun s => Value.string ⟨s.toArray⟩).toArray.toList.mapM str?).map _ = _
  rw [show (L.map fun s => Value.string ⟨s.toArray⟩).toArray.toList = (L.map fun s => Value.string ⟨s.toArray⟩) from rfl, str_map]
  unfold dat
  simp [Function.comp_def]
theorem RE_inv {v : Value} {L : List (List UInt8)} {ps : List MemPlace} (h : RE v = some (dat L, ps)) : v = lex L := by
  unfold RE at h
  split at h
  · rename_i a
    cases hm : a.toList.mapM str? with
    | none => rw [hm] at h; cases h
    | some l =>
      rw [hm] at h
      have e1 := str_inv _ _ hm
      have h2 : (l.map fun s => DataW.lit (H := Unit) (.string s.data.toList)) = (L.map fun s => .lit (.string s)) := by
        have h3 := congrArg Prod.fst (Option.some.inj h)
        unfold dat at h3
        simpa using h3
      have h4 : l.map (fun s => s.data.toList) = L := by
        have := congrArg (List.map fun d : DataW Unit => match d with | .lit (.string s) => s | _ => []) h2
        simpa [List.map_map, Function.comp_def] using this
      unfold lex
      rw [← h4, List.map_map]
      have e2 : a = (l.map Value.string).toArray := by rw [← e1]
      rw [e2]
      congr 2
  · cases h
theorem key_law : Keyed Tryd.prog 2 := Maps.int_keyed Tryd.underlying2
def okn (s : Int) : Prop := -9223372036854775808 ≤ s ∧ s < 9223372036854775808
theorem wf_of {s : Int} (hs : okn s) : (Lit.int .i64 s).wf = true := by unfold okn at hs; have hm : IntKind.i64.min = -9223372036854775808 := rfl; have hM : IntKind.i64.max = 9223372036854775807 := rfl; simp [Lit.wf]; omega
theorem key_of {s : Int} (hs : okn s) : keyOf Tryd.prog 2 (.int .i64 s) = some (.int .i64 s) := Maps.keyOf_int_mk Tryd.underlying2 (wf_of hs)
def LA : List (List UInt8) := [[99, 97, 108, 109], [], [110, 111, 114, 116, 104, 45, 101, 97, 115, 116], [101, 97, 115, 116], [115, 111, 117, 116, 104, 45, 101, 97, 115, 116], [115, 111, 117, 116, 104], [115, 111, 117, 116, 104, 45, 119, 101, 115, 116], [119, 101, 115, 116], [110, 111, 114, 116, 104, 45, 119, 101, 115, 116], [110, 111, 114, 116, 104], [32], [44, 32, 114, 105, 115, 105, 110, 103, 32, 116, 111, 32], [44, 32, 102, 97, 108, 108, 105, 110, 103, 32, 116, 111, 32], [100, 114, 121], [114, 97, 105, 110], [115, 110, 111, 119], [104, 97, 105, 108], [32, 105, 110, 32], [32, 112, 108, 97, 99, 101], [32, 112, 108, 97, 99, 101, 115]]
def LB : List (List UInt8) := [[119, 105, 110, 100, 115, 116, 105, 108, 108], [], [78, 111, 114, 100, 111, 115, 116], [79, 115, 116], [83, 195, 188, 100, 111, 115, 116], [83, 195, 188, 100], [83, 195, 188, 100, 119, 101, 115, 116], [87, 101, 115, 116], [78, 111, 114, 100, 119, 101, 115, 116], [78, 111, 114, 100], [32, 83, 116, 195, 164, 114, 107, 101, 32], [44, 32, 122, 117, 110, 101, 104, 109, 101, 110, 100, 32], [44, 32, 97, 98, 110, 101, 104, 109, 101, 110, 100, 32], [116, 114, 111, 99, 107, 101, 110], [82, 101, 103, 101, 110], [83, 99, 104, 110, 101, 101], [72, 97, 103, 101, 108], [32, 97, 110, 32], [32, 79, 114, 116], [32, 79, 114, 116, 101, 110]]
def LC : List (List UInt8) := [[99, 105, 115, 122, 97], [119, 105, 97, 116, 114, 32], [112, 195, 179, 197, 130, 110, 111, 99, 110, 111, 45, 119, 115, 99, 104, 111, 100, 110, 105], [119, 115, 99, 104, 111, 100, 110, 105], [112, 111, 197, 130, 117, 100, 110, 105, 111, 119, 111, 45, 119, 115, 99, 104, 111, 100, 110, 105], [112, 111, 197, 130, 117, 100, 110, 105, 111, 119, 121], [112, 111, 197, 130, 117, 100, 110, 105, 111, 119, 111, 45, 122, 97, 99, 104, 111, 100, 110, 105], [122, 97, 99, 104, 111, 100, 110, 105], [112, 195, 179, 197, 130, 110, 111, 99, 110, 111, 45, 122, 97, 99, 104, 111, 100, 110, 105], [112, 195, 179, 197, 130, 110, 111, 99, 110, 121], [44, 32, 115, 105, 197, 130, 97, 32], [44, 32, 119, 122, 114, 111, 115, 116, 32, 100, 111, 32], [44, 32, 115, 112, 97, 100, 101, 107, 32, 100, 111, 32], [115, 117, 99, 104, 111], [100, 101, 115, 122, 99, 122], [197, 155, 110, 105, 101, 103], [103, 114, 97, 100], [32, 119, 32], [32, 109, 105, 101, 106, 115, 99, 117], [32, 109, 105, 101, 106, 115, 99, 97, 99, 104]]
def LZ : List (List UInt8) := List.replicate 20 []
/-- the words of a tongue -/
def lxs (t : Int) : List (List UInt8) := if t = 1 then LA else if t = 2 then LB else if t = 3 then LC else LZ
theorem zeroL (w : World) : (zeroValue 42).run Tryd.prog w = .ok (lex LZ) w := by kernel_rfl
def DD : DataW Unit := (((DataW.map []).put (.int .i64 1) (dat LA)).put (.int .i64 2) (dat LB)).put (.int .i64 3) (dat LC)
abbrev k1 : Lit := .int .i64 1
abbrev k2 : Lit := .int .i64 2
abbrev k3 : Lit := .int .i64 3
theorem at_all (t : Int) : DD.atKey (.int .i64 t) (dat LZ) = dat (lxs t) ∧ Maps.has DD (.int .i64 t) = (decide (t = 1) || (decide (t = 2) || decide (t = 3))) := by
  have n12 : (Lit.int .i64 1) ≠ Lit.int .i64 2 := by intro h; cases h
  have n13 : (Lit.int .i64 1) ≠ Lit.int .i64 3 := by intro h; cases h
  have n23 : (Lit.int .i64 2) ≠ Lit.int .i64 3 := by intro h; cases h
  have hm : Maps.IsMap (DataW.map (H := Unit) []) := ⟨_, rfl⟩
  have m1 : Maps.IsMap ((DataW.map (H := Unit) []).put (.int .i64 1) (dat LA)) := ⟨_, rfl⟩
  have m2 : Maps.IsMap (((DataW.map (H := Unit) []).put (.int .i64 1) (dat LA)).put (.int .i64 2) (dat LB)) := ⟨_, rfl⟩
  have q1 : WideAt.IsKeyLit (.int .i64 1) := key_law.key (key_of (s := 1) (by unfold okn; omega))
  have q2 : WideAt.IsKeyLit (.int .i64 2) := key_law.key (key_of (s := 2) (by unfold okn; omega))
  have q3 : WideAt.IsKeyLit (.int .i64 3) := key_law.key (key_of (s := 3) (by unfold okn; omega))
  unfold DD lxs
  by_cases e1 : t = 1
  · subst e1
    rw [Maps.atKey_put_other n13, Maps.atKey_put_other n12, Maps.atKey_put_same hm q1, Maps.has_put_other n13, Maps.has_put_other n12, Maps.has_put_same hm q1]
    exact ⟨rfl, rfl⟩
  · by_cases e2 : t = 2
    · subst e2
      rw [Maps.atKey_put_other n23, Maps.atKey_put_same m1 q2, Maps.has_put_other n23, Maps.has_put_same m1 q2]
      exact ⟨rfl, rfl⟩
    · by_cases e3 : t = 3
      · subst e3
        rw [Maps.atKey_put_same m2 q3, Maps.has_put_same m2 q3]
        exact ⟨rfl, rfl⟩
      · have d1 : (Lit.int .i64 t) ≠ Lit.int .i64 1 := fun h => e1 (by simpa using h)
        have d2 : (Lit.int .i64 t) ≠ Lit.int .i64 2 := fun h => e2 (by simpa using h)
        have d3 : (Lit.int .i64 t) ≠ Lit.int .i64 3 := fun h => e3 (by simpa using h)
        rw [Maps.atKey_put_other d3, Maps.atKey_put_other d2, Maps.atKey_put_other d1, Maps.has_put_other d3, Maps.has_put_other d2, Maps.has_put_other d1, if_neg e1, if_neg e2, if_neg e3, decide_eq_false e1, decide_eq_false e2, decide_eq_false e3]
        exact ⟨rfl, rfl⟩
set_option maxHeartbeats 2000000 in
set_option maxRecDepth 20000 in
theorem tongues_any (t : Int) (ht : okn t) (w : World) :
    Calls Tryd.prog 18 #[] w fun e w' => ∃ g, e = .returned (.map (some g)) ∧ Below w.heap.size w w' ∧ (Instr.lookup 44 (.map (some g)) (.int .i64 t) true).run Tryd.prog w' = .ok (.tuple #[lex (lxs t), .bool (decide (t = 1) || (decide (t = 2) || decide (t = 3)))]) w' := by
  obtain ⟨w1, hw1⟩ : ∃ w1, w1 = w.alloc (.map #[] 0) := ⟨_, rfl⟩
  have HW : Hid (w1 = w.alloc (.map #[] 0)) := hw1
  have M1 : w1.ownsMap Tryd.prog 2 RE w.heap.size 0 (.map []) := by rw [hw1]; exact World.ownsMap_made w Tryd.prog 2 RE
  have B1 : Below w.heap.size w w1 := by rw [hw1]; exact (Below.refl _ _).alloc (Nat.le_refl _) _
  obtain ⟨w2, r2, M2, g2⟩ := M1.update key_law Tryd.underlying44 (by unfold maxLen; omega) (key_of (s := 1) (by unfold okn; omega)) (RE_lex LA)
  obtain ⟨w3, r3, M3, g3⟩ := M2.update key_law Tryd.underlying44 (by unfold maxLen; omega) (key_of (s := 2) (by unfold okn; omega)) (RE_lex LB)
  obtain ⟨w4, r4, M4, g4⟩ := M3.update key_law Tryd.underlying44 (by unfold maxLen; omega) (key_of (s := 3) (by unfold okn; omega)) (RE_lex LC)
  have B4 : Hid (Below w.heap.size w w4) := (((B1.grown g2 B1.size (fun k hk => by cases hk; exact Nat.le_refl _)).grown g3 (by have := B1.size; have := g2.size; omega) (fun k hk => by cases hk; exact Nat.le_refl _)).grown g4 (by have := B1.size; have := g2.size; have := g3.size; omega) (fun k hk => by cases hk; exact Nat.le_refl _))
  have LK : Hid ((Instr.lookup 44 (.map (some w.heap.size)) (.int .i64 t) true).run Tryd.prog w4 = .ok (.tuple #[lex (lxs t), .bool (decide (t = 1) || (decide (t = 2) || decide (t = 3)))]) w4) := (by
    obtain ⟨v, ps, hrun, hv⟩ := M4.look_ok key_law Tryd.underlying44 (zeroL w4) (RE_lex LZ) (key_of ht)
    have ha := at_all t
    show _ = _
    rw [hrun]
    have e1 : v = lex (lxs t) := RE_inv (by rw [hv]; congr 2; exact ha.1)
    have e2 := ha.2
    rw [e1]
    unfold DD at e2
    rw [e2])
  have r2' : (Instr.mapUpdate 44 (.map (some w.heap.size)) (.int .i64 1) (.agg #[.string ⟨#[99, 97, 108, 109]⟩, .string ⟨#[]⟩, .string ⟨#[110, 111, 114, 116, 104, 45, 101, 97, 115, 116]⟩, .string ⟨#[101, 97, 115, 116]⟩, .string ⟨#[115, 111, 117, 116, 104, 45, 101, 97, 115, 116]⟩, .string ⟨#[115, 111, 117, 116, 104]⟩, .string ⟨#[115, 111, 117, 116, 104, 45, 119, 101, 115, 116]⟩, .string ⟨#[119, 101, 115, 116]⟩, .string ⟨#[110, 111, 114, 116, 104, 45, 119, 101, 115, 116]⟩, .string ⟨#[110, 111, 114, 116, 104]⟩, .string ⟨#[32]⟩, .string ⟨#[44, 32, 114, 105, 115, 105, 110, 103, 32, 116, 111, 32]⟩, .string ⟨#[44, 32, 102, 97, 108, 108, 105, 110, 103, 32, 116, 111, 32]⟩, .string ⟨#[100, 114, 121]⟩, .string ⟨#[114, 97, 105, 110]⟩, .string ⟨#[115, 110, 111, 119]⟩, .string ⟨#[104, 97, 105, 108]⟩, .string ⟨#[32, 105, 110, 32]⟩, .string ⟨#[32, 112, 108, 97, 99, 101]⟩, .string ⟨#[32, 112, 108, 97, 99, 101, 115]⟩])).run Tryd.prog w1 = .ok () w2 := r2
  have r3' : (Instr.mapUpdate 44 (.map (some w.heap.size)) (.int .i64 2) (.agg #[.string ⟨#[119, 105, 110, 100, 115, 116, 105, 108, 108]⟩, .string ⟨#[]⟩, .string ⟨#[78, 111, 114, 100, 111, 115, 116]⟩, .string ⟨#[79, 115, 116]⟩, .string ⟨#[83, 195, 188, 100, 111, 115, 116]⟩, .string ⟨#[83, 195, 188, 100]⟩, .string ⟨#[83, 195, 188, 100, 119, 101, 115, 116]⟩, .string ⟨#[87, 101, 115, 116]⟩, .string ⟨#[78, 111, 114, 100, 119, 101, 115, 116]⟩, .string ⟨#[78, 111, 114, 100]⟩, .string ⟨#[32, 83, 116, 195, 164, 114, 107, 101, 32]⟩, .string ⟨#[44, 32, 122, 117, 110, 101, 104, 109, 101, 110, 100, 32]⟩, .string ⟨#[44, 32, 97, 98, 110, 101, 104, 109, 101, 110, 100, 32]⟩, .string ⟨#[116, 114, 111, 99, 107, 101, 110]⟩, .string ⟨#[82, 101, 103, 101, 110]⟩, .string ⟨#[83, 99, 104, 110, 101, 101]⟩, .string ⟨#[72, 97, 103, 101, 108]⟩, .string ⟨#[32, 97, 110, 32]⟩, .string ⟨#[32, 79, 114, 116]⟩, .string ⟨#[32, 79, 114, 116, 101, 110]⟩])).run Tryd.prog w2 = .ok () w3 := r3
  have r4' : (Instr.mapUpdate 44 (.map (some w.heap.size)) (.int .i64 3) (.agg #[.string ⟨#[99, 105, 115, 122, 97]⟩, .string ⟨#[119, 105, 97, 116, 114, 32]⟩, .string ⟨#[112, 195, 179, 197, 130, 110, 111, 99, 110, 111, 45, 119, 115, 99, 104, 111, 100, 110, 105]⟩, .string ⟨#[119, 115, 99, 104, 111, 100, 110, 105]⟩, .string ⟨#[112, 111, 197, 130, 117, 100, 110, 105, 111, 119, 111, 45, 119, 115, 99, 104, 111, 100, 110, 105]⟩, .string ⟨#[112, 111, 197, 130, 117, 100, 110, 105, 111, 119, 121]⟩, .string ⟨#[112, 111, 197, 130, 117, 100, 110, 105, 111, 119, 111, 45, 122, 97, 99, 104, 111, 100, 110, 105]⟩, .string ⟨#[122, 97, 99, 104, 111, 100, 110, 105]⟩, .string ⟨#[112, 195, 179, 197, 130, 110, 111, 99, 110, 111, 45, 122, 97, 99, 104, 111, 100, 110, 105]⟩, .string ⟨#[112, 195, 179, 197, 130, 110, 111, 99, 110, 121]⟩, .string ⟨#[44, 32, 115, 105, 197, 130, 97, 32]⟩, .string ⟨#[44, 32, 119, 122, 114, 111, 115, 116, 32, 100, 111, 32]⟩, .string ⟨#[44, 32, 115, 112, 97, 100, 101, 107, 32, 100, 111, 32]⟩, .string ⟨#[115, 117, 99, 104, 111]⟩, .string ⟨#[100, 101, 115, 122, 99, 122]⟩, .string ⟨#[197, 155, 110, 105, 101, 103]⟩, .string ⟨#[103, 114, 97, 100]⟩, .string ⟨#[32, 119, 32]⟩, .string ⟨#[32, 109, 105, 101, 106, 115, 99, 117]⟩, .string ⟨#[32, 109, 105, 101, 106, 115, 99, 97, 99, 104]⟩])).run Tryd.prog w3 = .ok () w4 := r4
  have r1' : (Instr.makeMap 44 none).run Tryd.prog w = .ok (.map (some w.heap.size)) w1 := by rw [hw1]; kernel_rfl
  clear M1 M2 M3 M4 g2 g3 g4 B1 hw1 r2 r3 r4
  go_enter Tryd.func18, Tryd.ntmps18
  go_wp2_with fail
  go_ret
  exact ⟨_, rfl, B4.out, LK.out⟩
end Go.Proofs.YtnbhfjcpimdnlaaDoor.Ph
