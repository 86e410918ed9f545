/- What the events of a right run leave: reports of both sides; a run that is being drawn. -/
import Derived.Test.YtfhpomfdkpfooaaPn
import Derived.Test.YtfhpomfdkpfooaaMs
import Derived.Test.YtfhpomfdkpfooaaMr
import Derived.Test.YtfhpomfdkpfooaaMc
import Derived.Test.YtfhpomfdkpfooaaMt
import Derived.Test.YtfhpomfdkpfooaaIs
import Derived.Test.YtfhpomfdkpfooaaNw
import Derived.Test.YtfhpomfdkpfooaaDv
namespace Go.Proofs.Ytfhpomfdkpfooaa.Ty
open Go.ChangeShapes Go.WideShapes Go.ChangeAt Go.RowKit
open Go.Proofs.Ytfhpomfdkpfooaa.Lists Go.Proofs.Ytfhpomfdkpfooaa.Tm Go.Proofs.Ytfhpomfdkpfooaa.Rk Go.Proofs.Ytfhpomfdkpfooaa.Ru Go.Proofs.Ytfhpomfdkpfooaa.Al Go.Proofs.Ytfhpomfdkpfooaa.Rd Go.Proofs.Ytfhpomfdkpfooaa.Cp

theorem rps_at {R : Tk.Ls} {J : Jb.Ls} {i : Nat} (hi : i < J.length) (h : hw J i = 1) (ok : Bool) : rps R J ((i : Int) + 1) ok = js J i (ez ok (tr J i) (Tk.cz R i 3)) (tr J i) ∧ rpb J ((i : Int) + 1) = true := by
  unfold rps rpb
  rw [show ((i : Int) + 1 - 1).toNat = i by omega, if_pos ⟨by omega, by omega, h⟩]
  exact ⟨rfl, decide_eq_true ⟨by omega, by omega, h⟩⟩
theorem rps_no {R : Tk.Ls} {J : Jb.Ls} {tk : Int} (h : ¬ (1 ≤ tk ∧ tk ≤ (J.length : Int) ∧ hw J (tk - 1).toNat = 1)) (ok : Bool) : rps R J tk ok = J ∧ rpb J tk = false := by
  unfold rps rpb
  rw [if_neg h]
  exact ⟨rfl, decide_eq_false h⟩
theorem srep_any (R : Tk.Ls) (X : List Int) (now : Int) (J : Jb.Ls) (vr vx vj : Value) (tk : Int) (ok : Bool) (w : World) (hh : RR w vr vx vj R X J) (hk : okR R X now J = true) :
    Calls Try.prog 8 #[rv vr vx now vj, .int .i64 tk, .bool ok] w fun e w' => ∃ ra rc xa xc ja jc, e = .returned (.tuple #[rv (.slice ra R.length rc) (.slice xa X.length xc) now (.slice ja J.length jc), .bool (rpb J tk)]) ∧ MO w' w.heap.size (.slice ra R.length rc) (.slice xa X.length xc) (.slice ja J.length jc) R X (rps R J tk ok) ∧ Below w.heap.size w w' := by
  by_cases h4 : 1 ≤ tk ∧ tk ≤ (J.length : Int)
  · obtain ⟨i, hi, rfl⟩ : ∃ i : Nat, i < J.length ∧ tk = (i : Int) + 1 := ⟨(tk - 1).toNat, by omega, by omega⟩
    by_cases h5 : hw J i = 1
    · obtain ⟨e1, e2⟩ := rps_at (R := R) hi h5 ok
      rw [e1, e2]
      cases ok
      · by_cases h6 : tr J i = Tk.cz R i 3
        · rw [show ez false (tr J i) (Tk.cz R i 3) = 3 by simp [ez, h6]]
          exact srep_lost R X now J vr vx vj i w hh hk hi h5 h6
        · rw [show ez false (tr J i) (Tk.cz R i 3) = 0 by simp [ez, h6]]
          exact srep_wait R X now J vr vx vj i w hh hk hi h5 h6
      · rw [show ez true (tr J i) (Tk.cz R i 3) = 2 by simp [ez]]
        exact srep_ok R X now J vr vx vj i w hh hk hi h5
    · obtain ⟨e1, e2⟩ := rps_no (R := R) (J := J) (tk := (i : Int) + 1) (by rw [show ((i : Int) + 1 - 1).toNat = i by omega]; exact fun q => h5 q.2.2) ok
      rw [e1, e2]
      exact srep_not R X now J vr vx vj i ok w hh hk hi h5
  · obtain ⟨e1, e2⟩ := rps_no (R := R) (J := J) (tk := tk) (fun q => h4 ⟨q.1, q.2.1⟩) ok
    rw [e1, e2]
    exact srep_out R X now J vr vx vj tk ok w hh hk h4
theorem irep_any (R : Tk.Ls) (X : List Int) (now : Int) (J : Jb.Ls) (vr vx vj : Value) (tk : Int) (ok : Bool) (w : World) (hh : RR w vr vx vj R X J) (hk : okR R X now J = true) :
    Calls Try.prog 9 #[rv vr vx now vj, .int .i64 tk, .bool ok] w fun e w' => ∃ ra rc xa xc ja jc, e = .returned (.tuple #[rv (.slice ra R.length rc) (.slice xa X.length xc) now (.slice ja J.length jc), .bool (rpb J tk)]) ∧ (∃ xs, RO w' w.heap.size (.slice ra R.length rc) (.slice xa X.length xc) (.slice ja J.length jc) xs R X (rps R J tk ok)) ∧ Below w.heap.size w w' := by
  by_cases h4 : 1 ≤ tk ∧ tk ≤ (J.length : Int)
  · obtain ⟨i, hi, rfl⟩ : ∃ i : Nat, i < J.length ∧ tk = (i : Int) + 1 := ⟨(tk - 1).toNat, by omega, by omega⟩
    by_cases h5 : hw J i = 1
    · obtain ⟨e1, e2⟩ := rps_at (R := R) hi h5 ok
      rw [e1, e2]
      exact irep_end R X now J vr vx vj i ok w hh hk hi h5
    · obtain ⟨e1, e2⟩ := rps_no (R := R) (J := J) (tk := (i : Int) + 1) (by rw [show ((i : Int) + 1 - 1).toNat = i by omega]; exact fun q => h5 q.2.2) ok
      rw [e1, e2]
      exact irep_not R X now J vr vx vj i ok w hh hk hi h5
  · obtain ⟨e1, e2⟩ := rps_no (R := R) (J := J) (tk := tk) (fun q => h4 ⟨q.1, q.2.1⟩) ok
    rw [e1, e2]
    exact irep_out R X now J vr vx vj tk ok w hh hk h4
abbrev zr : Array Value := #[.slice none 0 0, .slice none 0 0, .int .i64 0, .slice none 0 0]
/-- a run that is being drawn -/
structure RD (r : Nat) (w : World) (nb : Nat) (vr vx vj : Value) (now : Int) (R : Tk.Ls) (X : List Int) (J : Jb.Ls) (wr : World) : Prop where
  rd : Rd r wr
  tu : Turn r w wr
  lo : w.heap.size < nb
  rb : Bl wr w.heap.size 30 zr
  bx : Bl wr nb 30 #[vr, vx, .int .i64 now, vj]
  mo : MO wr (w.heap.size + 1) vr vx vj R X J
  ok : okR R X now J = true
theorem RD.turn {r : Nat} {w : World} {nb : Nat} {vr vx vj : Value} {now : Int} {R : Tk.Ls} {X : List Int} {J : Jb.Ls} {wr w' : World} (h : RD r w nb vr vx vj now R X J wr) (hr : r < w.heap.size) (k : Rd r w') (t : Turn r wr w') : RD r w nb vr vx vj now R X J w' :=
  ⟨k, h.tu.trans t, h.lo, h.rb.kb (Du.turn_kb t) (by omega), h.bx.kb (Du.turn_kb t) (by have := h.lo; omega), mo_kb h.mo (Du.turn_kb t) (fun b hb => .inl (by omega)), h.ok⟩
theorem RD.up {r : Nat} {w : World} {nb : Nat} {vr vx vj : Value} {now : Int} {R : Tk.Ls} {X : List Int} {J : Jb.Ls} {wr w' : World} (h : RD r w nb vr vx vj now R X J wr) (hr : r < w.heap.size) (hb : Below wr.heap.size wr w') : RD r w nb vr vx vj now R X J w' :=
  h.turn hr (h.rd.kept hb h.rd.lt) (Turn.of hb (Nat.le_refl _) (Nat.le_of_lt h.rd.lt))
theorem RD.drew {r : Nat} {w : World} {nb : Nat} {vr vx vj : Value} {now : Int} {R : Tk.Ls} {X : List Int} {J : Jb.Ls} {wr : World} (h : RD r w nb vr vx vj now R X J wr) (hr : r < w.heap.size) : RD r w nb vr vx vj now R X J wr.drew := h.turn hr (h.rd.drewN 1) ((Turn.refl r wr).drewN 1)
theorem RD.cells {r : Nat} {w : World} {nb : Nat} {vr vx vj : Value} {now : Int} {R : Tk.Ls} {X : List Int} {J : Jb.Ls} {wr : World} (h : RD r w nb vr vx vj now R X J wr) : wr.cell? ⟨nb, 0, none⟩ = some vr ∧ wr.cell? ⟨nb, 1, none⟩ = some vx ∧ wr.cell? ⟨nb, 2, none⟩ = some (.int .i64 now) ∧ wr.cell? ⟨nb, 3, none⟩ = some vj := by
  refine ⟨?_, ?_, ?_, ?_⟩ <;> rw [h.bx.cell] <;> rfl
theorem RD.free {r : Nat} {w : World} {nb : Nat} {vr vx vj : Value} {now : Int} {R : Tk.Ls} {X : List Int} {J : Jb.Ls} {wr : World} (h : RD r w nb vr vx vj now R X J wr) : wr.frozen? ⟨nb, 0, none⟩ = false ∧ wr.frozen? ⟨nb, 1, none⟩ = false ∧ wr.frozen? ⟨nb, 2, none⟩ = false ∧ wr.frozen? ⟨nb, 3, none⟩ = false := ⟨h.bx.fz 0, h.bx.fz 1, h.bx.fz 2, h.bx.fz 3⟩
abbrev put4 (w : World) (nb : Nat) (a b c d : Value) : World := (((w.setCell ⟨nb, 0, none⟩ a).setCell ⟨nb, 1, none⟩ b).setCell ⟨nb, 2, none⟩ c).setCell ⟨nb, 3, none⟩ d
/-- an event has given a run, which is kept -/
theorem RD.put {r : Nat} {w : World} {nb : Nat} {vr vx vj ur ux uj : Value} {now now' : Int} {R R' : Tk.Ls} {X X' : List Int} {J J' : Jb.Ls} {wr w' : World} (h : RD r w nb vr vx vj now R X J wr) (hr : r < w.heap.size) (hb : Below wr.heap.size wr w') (hm : MO w' wr.heap.size ur ux uj R' X' J') (hk : okR R' X' now' J' = true) :
    RD r w nb ur ux uj now' R' X' J' (put4 w' nb ur ux (.int .i64 now') uj) := by
  have h2 := h.up hr hb
  have lo := h.lo
  have ks : KB (fun b => b = nb) w' (put4 w' nb ur ux (.int .i64 now') uj) := (((kb_set w' nb 0 _).trans (kb_set _ nb 1 _)).trans (kb_set _ nb 2 _)).trans (kb_set _ nb 3 _)
  have hz := h.rb.lt
  exact ⟨Du.rd_kb h2.rd ks (fun b hb => by omega), Du.kb_turn hr h2.tu ks (fun b hb => by omega), lo, h2.rb.kb ks (by omega), (((h2.bx.set 0 ur).set 1 ux).set 2 (.int .i64 now')).set 3 uj, mo_box (hm.down (by omega)) ks h2.bx.ty, hk⟩
end Go.Proofs.Ytfhpomfdkpfooaa.Ty
