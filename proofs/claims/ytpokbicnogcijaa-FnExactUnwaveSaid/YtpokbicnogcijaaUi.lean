/- The fronts, handed out backwards, where a round may panic. -/
import Derived.Test.YtpokbicnogcijaaUc
import Derived.Test.YtpokbicnogcijaaRq
namespace Go.Proofs.Ytpokbicnogcijaa.Lists
open Go.ChangeShapes Go.WideShapes Go.ChangeAt Go.RowKit
attribute [local go_sem] Oper.semAt_some

set_option maxRecDepth 20000 in
set_option maxHeartbeats 4000000 in
theorem back_seqP (s n bx gf cf : Nat) (hs : s ≤ 12) (w : World) (hF : Fx w bx gf s cf n) (Y : Nat → Prop) (hY : ¬ Y bx ∧ ¬ Y gf) :
    Rp.SeqP Fence.wide 4 Try.prog 54 #[.pointer (some ⟨bx, 0, none⟩)] (encB n) (fun l k => Y k ∨ k = l) (xs s) w := by
  intro l J E W hl hlW hbW hJ hR h0
  refine callsIn_of_wp Try.func54 rfl trivial ?_ rfl
  simp only [Try.ntmps54, List.size_toArray, List.length_cons, List.length_nil, Nat.reduceAdd, Nat.reduceSub, Array.replicate_succ, Array.replicate_zero, List.push_toArray, List.append_toArray, List.nil_append, List.cons_append]
  have F0 : Hid (Fx W bx gf s cf n) := hF.on hbW
  have HJ : Hid (∀ (s : List Nat) (A C : World), J s A → Below A.heap.size A C → J s C) := hJ
  have HR : Hid (∀ (pre : List Nat) (e : Nat) (W1 : World), J pre W1 → pre ++ [e] <+: xs s → YieldAt Fence.wide 3 Try.prog l (encB n e) W1 fun e' W' => (e' = .returned (.bool true) ∧ J (pre ++ [e]) W' ∧ Rf.But (fun k => Y k ∨ k = l) W1 W') ∨ ∃ ch, e' = .panicked ch ∧ E ch W') := hR
  have J0 : Hid (J ((xs s).take (s - s)) W) := (by show J _ _; rw [Nat.sub_self]; exact h0)
  have NX : Hid (¬ (Y bx ∨ bx = l) ∧ ¬ (Y gf ∨ gf = l)) := ⟨fun h => by rcases h with h | h; exact hY.1 h; have := hF.2.2.1; omega, fun h => by rcases h with h | h; exact hY.2 h; have := hF.2.2.2; omega⟩
  have a0 := F0.out.1
  clear hJ hR h0 hF hY hbW
  gi_wp2
  clear a0
  gi_loopw [3] (fun u wr => ∃ k : Nat, k ≤ s ∧ u = .int .i64 ((k : Int) - 1) ∧ Hid (J ((xs s).take (s - k)) wr ∧ Fx wr bx gf s cf n)) (fun u _ => (intOf u + 1).toNat)
  case atStart => exact ⟨s, Nat.le_refl _, by go_num, J0.out, F0.out⟩
  case round =>
    obtain ⟨k, hk, rfl, IV⟩ := hrel
    clear J0 F0
    cases k with
    | zero =>
      have JE : Hid (J (xs s) wr) := (by
        have := IV.out.1
        rw [Nat.sub_zero, List.take_of_length_le (by rw [xs_len]; exact Nat.le_refl _)] at this
        exact this)
      clear IV HR
      have j0 : ¬ (0 : Int) ≤ ((0 : Nat) : Int) - 1 := by omega
      gi_wp2_with fail
      go_end0
      exact .inl ⟨⟨_, rfl⟩, JE.out⟩
    | succ k =>
      have e1 : (((k + 1 : Nat) : Int) - 1) = (k : Int) := by omega
      rw [e1]
      have a0 := IV.out.2.1
      have a1 := IV.out.2.2.1 k (by omega)
      have j0 : (0 : Int) ≤ (k : Int) := by omega
      have j1 : (k : Int) < (s : Int) := by omega
      obtain ⟨fn, tmps, assign, body, hy, hR⟩ := HR.out _ k wr IV.out.1 (by rw [xs_take (by omega)]; exact List.take_prefix _ _)
      simp only [encB] at hy
      have IF : Hid (Fx wr bx gf s cf n) := IV.out.2
      clear HR IV e1
      gi_wp2_with fail
      refine hR.mono ?_
      clear hR hy
      rintro e W3 (⟨rfl, hJ3, hk3⟩ | ⟨ch, rfl, hE⟩)
      rotate_left
      · exact ⟨rfl, .inr ⟨ch, rfl, hE⟩⟩
      have J3 : Hid (J ((xs s).take (s - k)) W3) := (by show J _ _; rw [← xs_take (by omega)]; exact hJ3)
      have F3 : Hid (Fx W3 bx gf s cf n) := IF.out.but hk3 NX.out.1 NX.out.2
      clear hJ3 hk3 a0 a1 IF
      gi_wp2_with fail
      go_roundw
      case rel => exact ⟨k, by omega, by go_num, J3.out, F3.out⟩
      case measure => simp [intOf] <;> omega
end Go.Proofs.Ytpokbicnogcijaa.Lists
