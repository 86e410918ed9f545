/- FnSuiteOnce: what the program gives, what the law reads. -/
import Derived.Test.YtfhpomfdkpfooaaQa
import Derived.Test.YtfhpomfdkpfooaaQb
import Derived.Deep.CutBlock
namespace Go.Proofs.Ytfhpomfdkpfooaa.Ty
open Go.ChangeShapes Go.WideShapes Go.ChangeAt Go.RowKit
open Go.Proofs.Ytfhpomfdkpfooaa.Lists Go.Proofs.Ytfhpomfdkpfooaa.Tm Go.Proofs.Ytfhpomfdkpfooaa.Rk Go.Proofs.Ytfhpomfdkpfooaa.Ru Go.Proofs.Ytfhpomfdkpfooaa.Al Go.Proofs.Ytfhpomfdkpfooaa.Rd Go.Proofs.Ytfhpomfdkpfooaa.Cp

/-- what the program gives: a run, made by the call -/
def PO (R : Tk.Ls) (X : List Int) (C : Jb.Ls) (W : World) (ra : Option Addr) (rc : Nat) (xa : Option Addr) (xc : Nat) (ja : Option Addr) (jc : Nat) (w' : World) : Prop := (∃ xs, RO w' W.heap.size (.slice ra R.length rc) (.slice xa X.length xc) (.slice ja R.length jc) xs R X C) ∧ Below W.heap.size W w'
theorem pstart {R : Tk.Ls} {X : List Int} {J : Jb.Ls} (hk : okR R X 0 J = true) (W : World) (vr vx vj : Value) (hh : RR W vr vx vj R X J) : Calls Try.prog 19 #[rv vr vx 0 vj] W fun e w' => ∃ ra rc xa xc ja jc la lc, e = .returned (.tuple #[rv (.slice ra R.length rc) (.slice xa X.length xc) 0 (.slice ja R.length jc), .slice la (ln R X J R.length).length lc]) ∧ PO R X (jn R X J R.length) W ra rc xa xc ja jc w' ∧ w'.ownsRow 0 2 1 (.slice la (ln R X J R.length).length lc) (ln R X J R.length).length (ints (ln R X J R.length)) := by
  have hl := (okR_iff.1 hk).2.2.1
  refine (istart_yes R X 0 J vr vx vj W hh hk).mono ?_
  rintro e w' ⟨a1, a2, a3, a4, a5, a6, a7, a8, rfl, ⟨xs, h1, h2, _⟩, hb⟩
  rw [hl] at h1 ⊢
  exact ⟨a1, a2, a3, a4, a5, a6, a7, a8, rfl, ⟨⟨xs, h1⟩, hb⟩, row_low h2⟩
theorem pcrash {R : Tk.Ls} {X : List Int} {J : Jb.Ls} (hk : okR R X 0 J = true) (W : World) (vr vx vj : Value) (hh : RR W vr vx vj R X J) : Calls Try.prog 18 #[rv vr vx 0 vj] W fun e w' => ∃ ra rc xa xc ja jc, e = .returned (rv (.slice ra R.length rc) (.slice xa X.length xc) 0 (.slice ja R.length jc)) ∧ PO R X (crs J J.length) W ra rc xa xc ja jc w' := by
  have hl := (okR_iff.1 hk).2.2.1
  refine (icrash_yes R X 0 J vr vx vj W hh hk).mono ?_
  rintro e w' ⟨a1, a2, a3, a4, a5, a6, rfl, ⟨xs, h1⟩, hb⟩
  rw [hl] at h1
  rw [hl]
  exact ⟨a1, a2, a3, a4, a5, a6, rfl, ⟨xs, h1⟩, hb⟩
theorem preport {R : Tk.Ls} {X : List Int} {J : Jb.Ls} {i : Nat} {ok : Bool} (hk : okR R X 0 J = true) (hi : i < R.length) (h : hw J i = 1) (W : World) (vr vx vj : Value) (hh : RR W vr vx vj R X J) : Calls Try.prog 9 #[rv vr vx 0 vj, .int .i64 ((i : Int) + 1), .bool ok] W fun e w' => ∃ ra rc xa xc ja jc, e = .returned (.tuple #[rv (.slice ra R.length rc) (.slice xa X.length xc) 0 (.slice ja R.length jc), .bool true]) ∧ PO R X (rps R J ((i : Int) + 1) ok) W ra rc xa xc ja jc w' := by
  have hl := (okR_iff.1 hk).2.2.1
  refine (irep_any R X 0 J vr vx vj ((i : Int) + 1) ok W hh hk).mono ?_
  rintro e w' ⟨a1, a2, a3, a4, a5, a6, rfl, ⟨xs, h1⟩, hb⟩
  rw [hl] at h1
  rw [hl, (rps_at (R := R) (by omega) h ok).2]
  exact ⟨a1, a2, a3, a4, a5, a6, rfl, ⟨xs, h1⟩, hb⟩
theorem PO.st {w2 : World} {bb db rk n : Nat} {vr vx vj : Value} {R : Tk.Ls} {X : List Int} {J C : Jb.Ls} {D : List Int} {B : List Bool} {W w' : World} {ra xa ja : Option Addr} {rc xc jc : Nat} (p : PO R X C W ra rc xa xc ja jc w') (h : ST w2 bb db rk n vr vx vj R X J D B W) : ST w2 bb db rk n (.slice ra R.length rc) (.slice xa X.length xc) (.slice ja R.length jc) R X C D B (put4 w' bb (.slice ra R.length rc) (.slice xa X.length xc) (.int .i64 0) (.slice ja R.length jc)) := by
  obtain ⟨⟨xs, ro⟩, hb⟩ := p
  exact h.run hb ro
/-- with the box of what was given laid ahead of it -/
theorem PO.st2 {w2 : World} {bb db rk n : Nat} {vr vx vj : Value} {R : Tk.Ls} {X : List Int} {J C : Jb.Ls} {D : List Int} {B : List Bool} {W w' : World} {ra xa ja : Option Addr} {rc xc jc : Nat} (p : PO R X C W ra rc xa xc ja jc w') (h : ST w2 bb db rk n vr vx vj R X J D B W) (o : Obj) : ST w2 bb db rk n (.slice ra R.length rc) (.slice xa X.length xc) (.slice ja R.length jc) R X C D B (put4 (w'.alloc o) bb (.slice ra R.length rc) (.slice xa X.length xc) (.int .i64 0) (.slice ja R.length jc)) := by
  obtain ⟨⟨xs, ro⟩, hb⟩ := p
  have bA : Below w'.heap.size w' (w'.alloc o) := (Below.refl _ _).alloc (Nat.le_refl _) _
  exact h.run (hb.trans (bA.mono hb.size)) (ro.on bA)
/-- the suite at any later time -/
structure SF (sb : Nat) (ta : Option Addr) (tc : Nat) (la : Option Addr) (lc : Nat) (R : Tk.Ls) (X : List Int) (W : World) : Prop where
  bx : Bl W sb 27 #[.slice ta R.length tc, .slice la X.length lc]
  rt : Tk.Reads W (.slice ta R.length tc) R
  lx : Lists.Reads W (.slice la X.length lc) X
theorem SF.on {sb : Nat} {ta : Option Addr} {tc : Nat} {la : Option Addr} {lc : Nat} {R : Tk.Ls} {X : List Int} {W W' : World} (h : SF sb ta tc la lc R X W) (hb : Below W.heap.size W W') : SF sb ta tc la lc R X W' := ⟨h.bx.on hb, h.rt.on hb, h.lx.on hb⟩
theorem SF.task {sb : Nat} {ta : Option Addr} {tc : Nat} {la : Option Addr} {lc : Nat} {R : Tk.Ls} {X : List Int} {W : World} (h : SF sb ta tc la lc R X W) (i : Nat) (hi : i < R.length) : ∃ b o, ta = some ⟨b, o, none⟩ ∧ W.cell? ⟨b, o + i * 4 + 1, none⟩ = some (.int .i64 (Tk.cz R i 1)) ∧ ∃ ua uc, W.cell? ⟨b, o + i * 4, none⟩ = some (.slice ua (Tk.cl R i).length uc) ∧ Lists.Reads W (.slice ua (Tk.cl R i).length uc) (Tk.cl R i) := by
  rcases h.rt with ⟨e, _⟩ | ⟨b, o, c, e, _, _, _, hcs⟩
  · rw [e] at hi; simp at hi
  · simp at e
    obtain ⟨c1, _, _, u, hu, hr⟩ := hcs i hi
    obtain ⟨ua, uc, e'⟩ := hr.form
    subst e'
    exact ⟨b, o, e.1, c1, ua, uc, hu, hr⟩
theorem SF.lim {sb : Nat} {ta : Option Addr} {tc : Nat} {la : Option Addr} {lc : Nat} {R : Tk.Ls} {X : List Int} {W : World} (h : SF sb ta tc la lc R X W) (i : Nat) (hi : i < X.length) : ∃ b o, la = some ⟨b, o, none⟩ ∧ W.cell? ⟨b, o + i, none⟩ = some (.int .i64 (X.getD i 0)) := by
  rcases h.lx with ⟨e, _⟩ | ⟨b, o, c, e, _, _, _, hcs⟩
  · rw [e] at hi; simp at hi
  · simp at e
    exact ⟨b, o, e.1, hcs i hi⟩
theorem read_at {W : World} {a : Option Addr} {c : Nat} {L : List Int} (h : Lists.Reads W (.slice a L.length c) L) (i : Nat) (hi : i < L.length) : ∃ b o, a = some ⟨b, o, none⟩ ∧ W.cell? ⟨b, o + i, none⟩ = some (.int .i64 (L.getD i 0)) := by
  rcases h with ⟨e, _⟩ | ⟨b, o, c, e, _, _, _, hcs⟩
  · rw [e] at hi; simp at hi
  · simp at e
    exact ⟨b, o, e.1, hcs i hi⟩
theorem done_two {R : Tk.Ls} {J : Jb.Ls} {i m : Nat} (h : fr R J i = true) (hm : m < (Tk.cl R i).length) : hw J (((Tk.cl R i).getD m 0) - 1).toNat = 2 := by
  have := all_at (f := dn R J i) h m hm
  unfold dn at this
  simpa using this

end Go.Proofs.Ytfhpomfdkpfooaa.Ty
