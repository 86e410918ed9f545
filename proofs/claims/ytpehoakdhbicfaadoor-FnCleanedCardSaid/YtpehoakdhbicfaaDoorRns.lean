/- A text cut into its runes, in the model. -/
import Derived.Test.YtpehoakdhbicfaaDoorRun
import Derived.Test.YtpehoakdhbicfaaDoorPos
import Derived.Test.YtpehoakdhbicfaaDoorShelf
import Derived.OwnWalk
import Derived.Outline
import Derived.Laws.OwnMore
import Derived.Lib.AppendStr
namespace Go.Proofs.YtpehoakdhbicfaaDoor.Uq
open Go.Proofs.YtpehoakdhbicfaaDoor.Ru
open Go.ChangeShapes Go.WideShapes Go.ChangeAt Go.RowKit

def piece (s : ByteArray) (k : Nat) : Value := .string (s.extract (pos s k) (pos s k + wd s (pos s k)))
def pieces (s : ByteArray) (k : Nat) : List Value := (List.range k).map (piece s)
theorem pieces_succ (s : ByteArray) (k : Nat) : pieces s (k + 1) = pieces s k ++ [piece s k] := by simp [pieces, List.range_succ]
theorem pieces_len (s : ByteArray) (k : Nat) : (pieces s k).length = k := by simp [pieces]

theorem row_form {e : TypeId} {w : World} {base n : Nat} {v : Value} {xs : List Value} (h : w.ownsRow base e 1 v n xs) : ∃ a cap, v = .slice a n cap := by
  rcases h.2 with ⟨rfl, rfl⟩ | ⟨g, cap, _, rfl, _⟩
  · exact ⟨_, _, rfl⟩
  · exact ⟨_, _, rfl⟩
theorem empty_row (e : TypeId) (W : World) (base : Nat) (h : base ≤ W.heap.size) : (W.alloc (.cells #[] e)).ownsRow base e 1 (.slice (some ⟨W.heap.size, 0, none⟩) 0 0) 0 [] :=
  ⟨by simp, .inr ⟨W.heap.size, 0, #[], rfl, h, heap_alloc_new W _, Nat.le_refl _, Nat.zero_le _, by simp, by simp⟩⟩

theorem Tryd.info9 : (Tryd.prog.info? 9).map (fun i => (i.zero, i.size, i.bytes)) = some (some (.string ⟨#[]⟩), 1, 16) := by kernel_rfl
theorem Tryd.info5 : (Tryd.prog.info? 5).map (fun i => (i.zero, i.size, i.bytes)) = some (some (.int .u8 0), 1, 1) := by kernel_rfl

def RuneAt (s : ByteArray) : Prop := ∀ (p : Nat) (w : World), p < s.size → Calls Tryd.prog 22 #[.string s, .int .i64 p] w (Said s p w)

set_option maxHeartbeats 2000000 in
set_option maxRecDepth 1000000 in
theorem srunes (s : ByteArray) (w : World) (hs : s.size ≤ 4194304) (RA0 : RuneAt s) :
    Calls Tryd.prog 24 #[.string s] w fun e w' => ∃ k v, Ends s k ∧ e = .returned v ∧ w'.ownsRow w.heap.size 9 1 v k (pieces s k) ∧ Below w.heap.size w w' := by
  obtain ⟨i0, hi, hz0, hz1, hz2⟩ := info_parts Tryd.info9
  have RA : Hid (RuneAt s) := RA0
  clear RA0
  have R0 : Hid ((w.alloc (.cells #[] 9)).ownsRow w.heap.size 9 1 (.slice (some ⟨w.heap.size, 0, none⟩) 0 0) 0 (pieces s 0)) := empty_row 9 w _ (Nat.le_refl _)
  go_enter Tryd.func24, Tryd.ntmps24
  go_wp2_with fail
  go_loopw [3, 4] (fun v x wr => ∃ k : Nat, Hid (lows s k) ∧ x = .int .i64 (pos s k : Nat) ∧ Hid (wr.ownsRow w.heap.size 9 1 v k (pieces s k)) ∧ Hid (Below w.heap.size w wr)) (fun _ x _ => (s.size - intOf x).toNat)
  case atStart => exact ⟨0, lows_zero s, rfl, R0, (Below.refl _ _).alloc (Nat.le_refl _) _⟩
  case round =>
    obtain ⟨k, LO, rfl, R, BW⟩ := hrel
    obtain ⟨aa, cap, hv⟩ := row_form R.out
    subst hv
    have pb := pos_ge LO.out
    have WD := wd_in s (pos s k)
    have PN : Hid (pos s k + wd s (pos s k) = pos s (k + 1)) := rfl
    have PC : Hid (piece s k = .string (s.extract (pos s k) (pos s k + wd s (pos s k)))) := rfl
    have LS : Hid (pos s k < s.size → lows s (k + 1)) := fun h => lows_succ LO.out h
    have EN : Hid (¬ pos s k < s.size → Ends s k) := fun h => ⟨h, LO.out⟩
    have RP : Hid (∀ w, pos s k < s.size → Calls Tryd.prog 22 #[.string s, .int .i64 (pos s k : Nat)] w fun e w' => e = .returned (.tuple #[.int .i64 (rn s (pos s k)), .int .i64 (wd s (pos s k))]) ∧ w' = w) := fun w h => RA.out (pos s k) w h
    by_cases hp : pos s k < s.size
    · have wd' := WD hp
      have LO' : Hid (lows s (k + 1)) := LS.out hp
      clear WD LS EN LO
      generalize wd s (pos s k) = n at *
      generalize rn s (pos s k) = r at *
      generalize pos s k = p at *
      go_wp2_with fail
      refine (RP.out _ hp).mono ?_
      rintro e w' ⟨rfl, hw⟩
      subst hw
      go_wp2_with (at_builtin; refine wpList_append_own _ rfl _ _ 48 rfl w.heap.size 9 i0 (.string ⟨#[]⟩) 1 16 Tryd.underlying48 hi hz0 hz1 hz2 rfl (by decide) _ _ _ rfl (R.out.alloc _) ⟨w'.heap.size, 0, none⟩ 1 1 [.string (s.extract p (p + n))] rfl rfl ?c1 ?c2 ?c3 ?c4 ?c5 ?_)
      case c1 =>
        intro j u hj
        match j, hj with
        | 0, hj => simp at hj; subst hj; simp [Addr.add]
      case c2 => intro u hu; simp at hu; subst hu; rfl
      case c3 => unfold maxLen; omega
      case c4 => omega
      case c5 => have := BW.out.size; simp; omega
      · intro v' w2 hown' hgrow _
        have hob : ∀ b, (Value.slice aa k cap).ownBlock = some b → w.heap.size ≤ b := fun b hb => (R.out.lt b hb).1
        have R' : Hid (w2.ownsRow w.heap.size 9 1 v' (k + 1) (pieces s (k + 1))) := by
          show World.ownsRow _ _ _ _ _ _ _
          rw [pieces_succ, PC.out]
          exact hown'
        have B' : Hid (Below w.heap.size w w2) := (BW.out.alloc BW.out.size _).grown hgrow (by have := BW.out.size; simp; omega) hob
        clear hown' hgrow hob R BW
        have e1 : (p : Int) + (n : Int) = ((pos s (k + 1) : Nat) : Int) := by rw [← PN.out]; omega
        have E1 : Hid ((p : Int) + (n : Int) = ((pos s (k + 1) : Nat) : Int)) := e1
        clear e1
        go_wp2_with fail
        go_roundw
        case rel => exact ⟨k + 1, LO', congrArg (Value.int .i64) E1.out, R', B'⟩
        case measure => simp [intOf]; omega
    · have EN' : Hid (Ends s k) := EN.out hp
      clear EN LS WD LO RP PN PC
      generalize pos s k = p at *
      go_wp2_with fail
      go_ret
      exact ⟨k, _, EN'.out, rfl, R.out, BW.out⟩
end Go.Proofs.YtpehoakdhbicfaaDoor.Uq
