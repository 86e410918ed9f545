/- The fronts, handed out backwards: slices.Backward. -/
import Derived.Test.YtpokbicnogcijaaUj
import Derived.Test.YtpokbicnogcijaaRf
import Derived.RangeFuncNested
import Derived.RangeFuncBound
import Derived.RangeFuncCalls
import Derived.RangeFuncLeaves
import Derived.Shelf.Abstract
import Derived.Shelf.RegionOpen
import Derived.OwnWalkIn
import Derived.TacticsInMore
import Derived.LoopNIn
import Derived.LoopIn
import Derived.RangeFuncBox
namespace Go.Proofs.Ytpokbicnogcijaa.Lists
open Go.ChangeShapes Go.WideShapes Go.ChangeAt Go.RowKit
attribute [local go_sem] Oper.semAt_some

def xs (s : Nat) : List Nat := (List.range s).reverse
abbrev encB (n k : Nat) : Array Value := #[.int .i64 (k : Int), .int .i64 (ft k n : Int)]
theorem xs_len (s : Nat) : (xs s).length = s := by simp [xs]
theorem xs_get (s i : Nat) (h : i < s) : (xs s)[i]? = some (s - 1 - i) := by
  unfold xs
  rw [List.getElem?_reverse (by simpa using h), List.length_range, List.getElem?_range (by omega)]
theorem xs_take {s k : Nat} (h : k < s) : (xs s).take (s - (k + 1)) ++ [k] = (xs s).take (s - k) := by
  rw [show s - k = s - (k + 1) + 1 by omega, List.take_add_one, xs_get s _ (by omega), show s - 1 - (s - (k + 1)) = k by omega]
  rfl
theorem xs_pre {s x : Nat} {pre : List Nat} (h : pre ++ [x] <+: xs s) : pre.length < s ∧ x = s - 1 - pre.length := by
  have h1 := h.length_le
  rw [xs_len] at h1
  simp at h1
  obtain ⟨t, ht⟩ := h
  have := xs_get s pre.length (by omega)
  rw [← ht] at this
  simp at this
  exact ⟨by omega, this⟩

set_option maxHeartbeats 1000000 in
theorem back_in (a : Option Addr) (m c : Nat) (w : World) : CallsIn Fence.wide 4 Try.prog 52 #[.slice a m c] w fun e w' => e = .returned (.func (.func 54) #[] #[.pointer (some ⟨w.heap.size, 0, none⟩)]) ∧ w' = w.alloc (Obj.cells #[.slice a m c] 36) := by
  refine callsIn_of_wp Try.func52 rfl trivial ?_ rfl
  simp only [Try.ntmps52, List.size_toArray, List.length_cons, List.length_nil, Nat.reduceAdd, Nat.reduceSub, Array.replicate_succ, Array.replicate_zero, List.push_toArray, List.append_toArray, List.nil_append, List.cons_append]
  gi_wp2
  go_ret
  exact ⟨rfl, rfl⟩

def Fx (w : World) (bx gf s cf n : Nat) : Prop := w.cell? ⟨bx, 0, none⟩ = some (.slice (some ⟨gf, 0, none⟩) s cf) ∧ (∀ i, i < s → w.cell? ⟨gf, i, none⟩ = some (.int .i64 (ft i n : Int))) ∧ bx < w.heap.size ∧ gf < w.heap.size
theorem Fx.on {w w' : World} {bx gf s cf n : Nat} (h : Fx w bx gf s cf n) (hb : Below w.heap.size w w') : Fx w' bx gf s cf n :=
  ⟨(hb.cell (p := ⟨bx, 0, none⟩) h.2.2.1).trans h.1, fun i hi => (hb.cell (p := ⟨gf, i, none⟩) h.2.2.2).trans (h.2.1 i hi), Nat.lt_of_lt_of_le h.2.2.1 hb.size, Nat.lt_of_lt_of_le h.2.2.2 hb.size⟩
theorem Fx.but {X : Nat → Prop} {w w' : World} {bx gf s cf n : Nat} (h : Fx w bx gf s cf n) (hb : Rf.But X w w') (h1 : ¬ X bx) (h2 : ¬ X gf) : Fx w' bx gf s cf n :=
  ⟨(hb.cell (p := ⟨bx, 0, none⟩) h.2.2.1 h1).trans h.1, fun i hi => (hb.cell (p := ⟨gf, i, none⟩) h.2.2.2 h2).trans (h.2.1 i hi), Nat.lt_of_lt_of_le h.2.2.1 hb.size, Nat.lt_of_lt_of_le h.2.2.2 hb.size⟩

set_option maxRecDepth 20000 in
set_option maxHeartbeats 4000000 in
theorem back_seq (s n bx gf cf : Nat) (hs : s ≤ 12) (w : World) (hF : Fx w bx gf s cf n) (Y : Nat → Prop) (hY : ¬ Y bx ∧ ¬ Y gf) :
    Rf.SeqG Fence.wide 4 Try.prog 54 #[.pointer (some ⟨bx, 0, none⟩)] (encB n) (fun l k => Y k ∨ k = l) (xs s) w := by
  intro l J W hl hlW hbW hJ hR h0
  refine callsIn_of_wp Try.func54 rfl trivial ?_ rfl
  simp only [Try.ntmps54, List.size_toArray, List.length_cons, List.length_nil, Nat.reduceAdd, Nat.reduceSub, Array.replicate_succ, Array.replicate_zero, List.push_toArray, List.append_toArray, List.nil_append, List.cons_append]
  have F0 : Hid (Fx W bx gf s cf n) := hF.on hbW
  have HJ : Hid (∀ (s : List Nat) (A C : World), J s A → Below A.heap.size A C → J s C) := hJ
  have HR : Hid (∀ (pre : List Nat) (e : Nat) (W1 : World), J pre W1 → pre ++ [e] <+: xs s → YieldAt Fence.wide 3 Try.prog l (encB n e) W1 fun e' W' => e' = .returned (.bool true) ∧ J (pre ++ [e]) W' ∧ Rf.But (fun k => Y k ∨ k = l) W1 W') := hR
  have J0 : Hid (J ((xs s).take (s - s)) W) := (by show J _ _; rw [Nat.sub_self]; exact h0)
  have NX : Hid (¬ (Y bx ∨ bx = l) ∧ ¬ (Y gf ∨ gf = l)) := ⟨fun h => by rcases h with h | h; exact hY.1 h; have := hF.2.2.1; omega, fun h => by rcases h with h | h; exact hY.2 h; have := hF.2.2.2; omega⟩
  have a0 := F0.out.1
  clear hJ hR h0 hF hY hbW
  gi_wp2
  clear a0
  gi_loopw [3] (fun u wr => ∃ k : Nat, k ≤ s ∧ u = .int .i64 ((k : Int) - 1) ∧ Hid (J ((xs s).take (s - k)) wr ∧ Fx wr bx gf s cf n)) (fun u _ => (intOf u + 1).toNat)
  case atStart => exact ⟨s, Nat.le_refl _, by go_num, J0.out, F0.out⟩
  case round =>
    obtain ⟨k, hk, rfl, IV⟩ := hrel
    clear J0 F0
    cases k with
    | zero =>
      have JE : Hid (J (xs s) wr) := (by
        have := IV.out.1
        rw [Nat.sub_zero, List.take_of_length_le (by rw [xs_len]; exact Nat.le_refl _)] at this
        exact this)
      clear IV HR
      have j0 : ¬ (0 : Int) ≤ ((0 : Nat) : Int) - 1 := by omega
      gi_wp2_with fail
      go_end0
      exact ⟨⟨_, rfl⟩, JE.out⟩
    | succ k =>
      have e1 : (((k + 1 : Nat) : Int) - 1) = (k : Int) := by omega
      rw [e1]
      have a0 := IV.out.2.1
      have a1 := IV.out.2.2.1 k (by omega)
      have j0 : (0 : Int) ≤ (k : Int) := by omega
      have j1 : (k : Int) < (s : Int) := by omega
      obtain ⟨fn, tmps, assign, body, hy, hR⟩ := HR.out _ k wr IV.out.1 (by rw [xs_take (by omega)]; exact List.take_prefix _ _)
      simp only [encB] at hy
      have IF : Hid (Fx wr bx gf s cf n) := IV.out.2
      clear HR IV e1
      gi_wp2_with fail
      refine hR.mono ?_
      clear hR hy
      rintro e W3 ⟨rfl, hJ3, hk3⟩
      have J3 : Hid (J ((xs s).take (s - k)) W3) := (by show J _ _; rw [← xs_take (by omega)]; exact hJ3)
      have F3 : Hid (Fx W3 bx gf s cf n) := IF.out.but hk3 NX.out.1 NX.out.2
      clear hJ3 hk3 a0 a1 IF
      gi_wp2_with fail
      go_roundw
      case rel => exact ⟨k, by omega, by go_num, J3.out, F3.out⟩
      case measure => simp [intOf] <;> omega
end Go.Proofs.Ytpokbicnogcijaa.Lists
