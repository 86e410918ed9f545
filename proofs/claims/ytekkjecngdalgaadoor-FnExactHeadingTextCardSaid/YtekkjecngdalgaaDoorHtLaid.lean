/- A heading that comes in as an argument, opened and shut; what the listed tables give a walk. -/
import Derived.Test.YtekkjecngdalgaaDoorHtW
import Derived.ProofKit
import Derived.LaidMore
import Derived.OpenShut
import Derived.Stop.Joined
import Derived.ChangeSame
import Derived.ChangeVars
import Derived.Lib.LaidTab
import Derived.Lib.SmallJoins
namespace Go.Proofs.YtekkjecngdalgaaDoor.Laid
open Go.ChangeShapes Go.WideShapes Go.ChangeAt Go.RowKit Go.Joins
variable {H : Type} {enc : TypeId × Value → H} {w : World} {base : Nat} {spare : Nat → Bool} {held : Bool}

abbrev lst : List (String × DataW Unit) := [("math/bits.deBruijn32tab", Rows.laid_math_bits_deBruijn32tab), ("math/bits.deBruijn64tab", Rows.laid_math_bits_deBruijn64tab), ("internal/strconv.uint64pow10", Rows.laid_internal_strconv_uint64pow10)]
theorem own : ownKnob Tryd.prog.godebug = none := by kernel_rfl
theorem tP : (Tryd.prog.globals[0]?).map (·.type) = some 95 := by kernel_rfl
theorem cells23 : Tryd.prog.cellsOf 23 = 8 := by kernel_rfl
theorem cells2 : Tryd.prog.cellsOf 2 = 1 := by kernel_rfl
theorem cells9 : Tryd.prog.cellsOf 9 = 1 := by kernel_rfl

theorem door_met (os : Os) (args : Array Value) : laidMetH Tryd.prog lst ((World.doorLaid Tryd.prog 400 os).forCall (fun _ _ => 0) ⟨#[], args, []⟩).memory :=
  laidMetH_of_parts3 (fuel := 8) (laidMet_of_run' 8 (by kernel_rfl) (by kernel_rfl)) (by kernel_rfl) (by kernel_rfl)

theorem tab {W : World} (h0 : laidMetH Tryd.prog lst W) : Lib.TabIs Tryd.prog W "internal/strconv.uint64pow10" .u64 Lib.pow10Tab := by
  rw [MakeChecks.laidMetH_plain _ _ _ (by kernel_rfl)] at h0
  obtain ⟨ps, ⟨_, _, _, _, _, _, _, _, _, _, ⟨_, _, _, _, _, _, _, _, _, _, ⟨g3, t3, cs3, f3, p3, q3, hg3, ht3, hv3, hd3, _, _⟩, _⟩, _⟩, _⟩ := h0
  obtain rfl := Option.some.inj (Head.gP.symm.trans hg3)
  obtain rfl := Option.some.inj (tP.symm.trans ht3)
  have e3 : (Rows.laid_internal_strconv_uint64pow10 : DataW Unit) = Lib.tabData .u64 Lib.pow10Tab := by kernel_rfl
  rw [e3] at hd3
  have c3 := Lib.cells_of_tab Tryd.underlying95 (k := .u64) (by kernel_rfl) (by kernel_rfl) (by kernel_rfl) hd3
  unfold Lib.TabIs
  rw [hv3]
  congr 1
  obtain ⟨l⟩ := cs3
  exact congrArg Array.mk c3
theorem tb {W : World} (h0 : laidMetH Tryd.prog lst W) : Head.Tb W := by
  refine ⟨tab h0, ?_⟩
  have := World.var?_cell Head.gP (tab h0) 0
  exact World.block_lt_of_cell? W ⟨0, 0, none⟩ (this.trans rfl)

theorem arr8 {cs : Array Value} (h : cs.size = 8) : ∃ a b c d e f g i, cs = #[a, b, c, d, e, f, g, i] := by
  obtain ⟨l⟩ := cs
  match l, h with
  | [a, b, c, d, e, f, g, i], _ => exact ⟨a, b, c, d, e, f, g, i, rfl⟩

set_option maxHeartbeats 2000000 in
theorem openHead {r : Reach} {b0 : Nat} {v : Value} {dd : DataW H} {p : List MemPlace} (hv : Value.okWide Tryd.prog w r b0 23 v) (hh : DataW.Trod enc Tryd.prog w base spare held 23 v dd p) :
    ∃ (K A : ByteArray) (n : Int) (C : ByteArray) (d h m : Int) (M : ByteArray), v = Head.hd K A n C d h m M ∧ dd = .agg [.lit (.string K.data.toList), .lit (.string A.data.toList), .lit (.int .i64 n), .lit (.string C.data.toList), .lit (.int .i64 d), .lit (.int .i64 h), .lit (.int .i64 m), .lit (.string M.data.toList)] ∧ p = [] ∧
      K.size ≤ maxLen ∧ A.size ≤ maxLen ∧ (Lit.int .i64 n).wf = true ∧ C.size ≤ maxLen ∧ (Lit.int .i64 d).wf = true ∧ (Lit.int .i64 h).wf = true ∧ (Lit.int .i64 m).wf = true ∧ M.size ≤ maxLen := by
  obtain ⟨cs, rfl, hsz⟩ := okWide_struct Tryd.underlying23 hv
  obtain ⟨c0, c1, c2, c3, c4, c5, c6, c7, rfl⟩ := arr8 (hsz.trans cells23)
  obtain ⟨fuel, hf⟩ := hh
  obtain ⟨xs, n, _, hx, _, hn, hel⟩ := DataW.trod_struct Tryd.underlying23 hf
  have e0 := hel 0 _ rfl
  have e1 := hel 1 _ rfl
  have e2 := hel 2 _ rfl
  have e3 := hel 3 _ rfl
  have e4 := hel 4 _ rfl
  have e5 := hel 5 _ rfl
  have e6 := hel 6 _ rfl
  have e7 := hel 7 _ rfl
  simp [cells2, cells9, Value.cells] at e0 e1 e2 e3 e4 e5 e6 e7 hn
  obtain ⟨x0, x1, x2, x3, x4, x5, x6, x7, rfl⟩ : ∃ a b c d e f g i, xs = [a, b, c, d, e, f, g, i] := by
    match xs, hn with
    | [a, b, c, d, e, f, g, i], _ => exact ⟨a, b, c, d, e, f, g, i, rfl⟩
  simp at e0 e1 e2 e3 e4 e5 e6 e7
  obtain ⟨K, k0, rfl, wK⟩ := DataW.trod_string Tryd.underlying9 e0
  obtain ⟨A, k1, rfl, wA⟩ := DataW.trod_string Tryd.underlying9 e1
  obtain ⟨nn, k2, rfl, wn⟩ := DataW.trod_int Tryd.underlying2 e2
  obtain ⟨C, k3, rfl, wC⟩ := DataW.trod_string Tryd.underlying9 e3
  obtain ⟨d, k4, rfl, wd⟩ := DataW.trod_int Tryd.underlying2 e4
  obtain ⟨h, k5, rfl, wh⟩ := DataW.trod_int Tryd.underlying2 e5
  obtain ⟨m, k6, rfl, wm⟩ := DataW.trod_int Tryd.underlying2 e6
  obtain ⟨M, k7, rfl, wM⟩ := DataW.trod_string Tryd.underlying9 e7
  simp at k0 k1 k2 k3 k4 k5 k6 k7
  subst k0 k1 k2 k3 k4 k5 k6 k7
  simp at hx
  exact ⟨K, A, nn, C, d, h, m, M, rfl, hx.1, hx.2, wK, wA, wn, wC, wd, wh, wm, wM⟩

set_option maxHeartbeats 2000000 in
theorem shutHead {K A : ByteArray} {n : Int} {C : ByteArray} {d h m : Int} {M : ByteArray} (wK : K.size ≤ maxLen) (wA : A.size ≤ maxLen) (wn : (Lit.int .i64 n).wf = true) (wC : C.size ≤ maxLen) (wd : (Lit.int .i64 d).wf = true) (wh : (Lit.int .i64 h).wf = true) (wm : (Lit.int .i64 m).wf = true) (wM : M.size ≤ maxLen) :
    DataW.Trod enc Tryd.prog w base spare held 23 (Head.hd K A n C d h m M) (.agg [.lit (.string K.data.toList), .lit (.string A.data.toList), .lit (.int .i64 n), .lit (.string C.data.toList), .lit (.int .i64 d), .lit (.int .i64 h), .lit (.int .i64 m), .lit (.string M.data.toList)]) [] := by
  refine ⟨2, ?_⟩
  simp [DataW.trod, Tryd.underlying23, Tryd.underlying2, Tryd.underlying9, cells23, cells2, cells9, Value.cells, wK, wA, wn, wC, wd, wh, wm, wM]
end Go.Proofs.YtekkjecngdalgaaDoor.Laid
