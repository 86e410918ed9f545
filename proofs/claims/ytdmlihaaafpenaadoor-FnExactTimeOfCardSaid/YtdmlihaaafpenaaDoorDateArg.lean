/- A date that comes in as an argument: opened to its five numbers, and shut again. -/
import Derived.Test.YtdmlihaaafpenaaDoorLaid
import Derived.Lib.SmallJoins
namespace Go.Proofs.YtdmlihaaafpenaaDoor.Laid
open Go.ChangeShapes Go.WideShapes Go.ChangeAt Go.RowKit Go.Joins
variable {H : Type} {enc : TypeId × Value → H} {w : World} {base : Nat} {spare : Nat → Bool} {held : Bool}

theorem cells23 : Tryd.prog.cellsOf 23 = 5 := by kernel_rfl
theorem arr5 {cs : Array Value} (h : cs.size = 5) : ∃ a b c d e, cs = #[a, b, c, d, e] := by
  obtain ⟨l⟩ := cs
  match l, h with
  | [a, b, c, d, e], _ => exact ⟨a, b, c, d, e, rfl⟩

set_option maxHeartbeats 1000000 in
theorem openDate {r : Reach} {b0 : Nat} {v : Value} {d : DataW H} {p : List MemPlace} (hv : Value.okWide Tryd.prog w r b0 23 v) (h : DataW.Trod enc Tryd.prog w base spare held 23 v d p) :
    ∃ y m dd hh i : Int, v = .agg #[.int .i64 y, .int .i64 m, .int .i64 dd, .int .i64 hh, .int .i64 i] ∧ d = .agg [.lit (.int .i64 y), .lit (.int .i64 m), .lit (.int .i64 dd), .lit (.int .i64 hh), .lit (.int .i64 i)] ∧ p = [] ∧
      (Lit.int .i64 y).wf = true ∧ (Lit.int .i64 m).wf = true ∧ (Lit.int .i64 dd).wf = true ∧ (Lit.int .i64 hh).wf = true ∧ (Lit.int .i64 i).wf = true := by
  obtain ⟨cs, rfl, hsz⟩ := okWide_struct Tryd.underlying23 hv
  obtain ⟨c0, c1, c2, c3, c4, rfl⟩ := arr5 (hsz.trans cells23)
  obtain ⟨fuel, hf⟩ := h
  obtain ⟨xs, n, _, hx, _, hn, hel⟩ := DataW.trod_struct Tryd.underlying23 hf
  have e0 := hel 0 _ rfl
  have e1 := hel 1 _ rfl
  have e2 := hel 2 _ rfl
  have e3 := hel 3 _ rfl
  have e4 := hel 4 _ rfl
  simp [cells2, Value.cells] at e0 e1 e2 e3 e4 hn
  obtain ⟨x0, x1, x2, x3, x4, rfl⟩ : ∃ a b c d e, xs = [a, b, c, d, e] := by
    match xs, hn with
    | [a, b, c, d, e], _ => exact ⟨a, b, c, d, e, rfl⟩
  simp at e0 e1 e2 e3 e4
  obtain ⟨y, k0, rfl, wy⟩ := DataW.trod_int Tryd.underlying2 e0
  obtain ⟨m, k1, rfl, wm⟩ := DataW.trod_int Tryd.underlying2 e1
  obtain ⟨dd, k2, rfl, wd⟩ := DataW.trod_int Tryd.underlying2 e2
  obtain ⟨hh, k3, rfl, wh⟩ := DataW.trod_int Tryd.underlying2 e3
  obtain ⟨i, k4, rfl, wi⟩ := DataW.trod_int Tryd.underlying2 e4
  simp at k0 k1 k2 k3 k4
  subst k0 k1 k2 k3 k4
  simp at hx
  exact ⟨y, m, dd, hh, i, rfl, hx.1, hx.2, wy, wm, wd, wh, wi⟩

set_option maxHeartbeats 1000000 in
theorem shutDate {y m dd hh i : Int} (wy : (Lit.int .i64 y).wf = true) (wm : (Lit.int .i64 m).wf = true) (wd : (Lit.int .i64 dd).wf = true) (wh : (Lit.int .i64 hh).wf = true) (wi : (Lit.int .i64 i).wf = true) :
    DataW.Trod enc Tryd.prog w base spare held 23 (.agg #[.int .i64 y, .int .i64 m, .int .i64 dd, .int .i64 hh, .int .i64 i]) (.agg [.lit (.int .i64 y), .lit (.int .i64 m), .lit (.int .i64 dd), .lit (.int .i64 hh), .lit (.int .i64 i)]) [] := by
  refine ⟨2, ?_⟩
  simp [DataW.trod, Tryd.underlying23, Tryd.underlying2, cells23, cells2, Value.cells, wy, wm, wd, wh, wi]
end Go.Proofs.YtdmlihaaafpenaaDoor.Laid
