/- Proved here: for every report (four int64 and six float64, all their bits) the law FnExactObsOk returns true, that is, ObsOk answers as its model. No condition. -/
import Derived.Test.YtngchoonfheckaaObH
import Derived.WalkKit
import Derived.ProofKit
import Derived.OpenShut
import Derived.Below
import Derived.Lib.SmallJoins
import Derived.ChangeSame
import Derived.Laws.Cover2
namespace Go.Proofs.Ytngchoonfheckaa.fnExactObsOk
open Go.ChangeShapes Go.WideShapes Go.ChangeAt Go.RowKit Go.Joins
set_option linter.unusedVariables false
variable {H : Type} {enc : TypeId × Value → H} {w : World} {base : Nat} {spare : Nat → Bool} {held : Bool}

theorem own : ownKnob Try.prog.godebug = none := by kernel_rfl
theorem cells26 : Try.prog.cellsOf 26 = 10 := by kernel_rfl
theorem cells2 : Try.prog.cellsOf 2 = 1 := by kernel_rfl
theorem cells24 : Try.prog.cellsOf 24 = 1 := by kernel_rfl
theorem trod_flt {P : Program} {fuel : Nat} {t : TypeId} {cs : List Value} {x : DataW H × List MemPlace} {k : FloatKind} (ht : P.underlying t = some (.float k)) (h : DataW.trod enc P w base spare held fuel t cs = some x) : ∃ n, cs = [.float k n] ∧ x = (.lit (.float k n), []) ∧ (Lit.float k n).wf = true := by
  cases fuel with
  | zero => simp [DataW.trod] at h
  | succ n =>
    unfold DataW.trod at h
    rw [ht] at h
    split at h <;> simp_all
theorem arr10 {cs : Array Value} (h : cs.size = 10) : ∃ a b c d e f g h i j, cs = #[a, b, c, d, e, f, g, h, i, j] := by
  obtain ⟨l⟩ := cs
  match l, h with
  | [a, b, c, d, e, f, g, h, i, j], _ => exact ⟨a, b, c, d, e, f, g, h, i, j, rfl⟩

set_option maxHeartbeats 4000000 in
theorem openObs {rr : Reach} {b0 : Nat} {vv : Value} {dd : DataW H} {pp : List MemPlace} (hv : Value.okWide Try.prog w rr b0 26 vv) (hh : DataW.Trod enc Try.prog w base spare held 26 vv dd pp) :
    ∃ (s : Int) (t d p : Nat) (di : Int) (sp v r : Nat) (we cl : Int), vv = Flt.ob s t d p di sp v r we cl ∧ dd = .agg [.lit (.int .i64 s), .lit (.float .f64 t), .lit (.float .f64 d), .lit (.float .f64 p), .lit (.int .i64 di), .lit (.float .f64 sp), .lit (.float .f64 v), .lit (.float .f64 r), .lit (.int .i64 we), .lit (.int .i64 cl)] ∧ pp = [] ∧ (Lit.int .i64 s).wf = true ∧ (Lit.float .f64 t).wf = true ∧ (Lit.float .f64 d).wf = true ∧ (Lit.float .f64 p).wf = true ∧ (Lit.int .i64 di).wf = true ∧ (Lit.float .f64 sp).wf = true ∧ (Lit.float .f64 v).wf = true ∧ (Lit.float .f64 r).wf = true ∧ (Lit.int .i64 we).wf = true ∧ (Lit.int .i64 cl).wf = true := by
  obtain ⟨cs, rfl, hsz⟩ := okWide_struct Try.underlying26 hv
  obtain ⟨c0, c1, c2, c3, c4, c5, c6, c7, c8, c9, rfl⟩ := arr10 (hsz.trans cells26)
  obtain ⟨fuel, hf⟩ := hh
  obtain ⟨xs, n, _, hx, _, hn, hel⟩ := DataW.trod_struct Try.underlying26 hf
  have e0 := hel 0 _ rfl
  have e1 := hel 1 _ rfl
  have e2 := hel 2 _ rfl
  have e3 := hel 3 _ rfl
  have e4 := hel 4 _ rfl
  have e5 := hel 5 _ rfl
  have e6 := hel 6 _ rfl
  have e7 := hel 7 _ rfl
  have e8 := hel 8 _ rfl
  have e9 := hel 9 _ rfl
  simp [cells2, cells24, Value.cells] at e0 e1 e2 e3 e4 e5 e6 e7 e8 e9 hn
  obtain ⟨x0, x1, x2, x3, x4, x5, x6, x7, x8, x9, rfl⟩ : ∃ a b c d e f g h i j, xs = [a, b, c, d, e, f, g, h, i, j] := by
    match xs, hn with
    | [a, b, c, d, e, f, g, h, i, j], _ => exact ⟨a, b, c, d, e, f, g, h, i, j, rfl⟩
  simp at e0 e1 e2 e3 e4 e5 e6 e7 e8 e9
  obtain ⟨s, k0, rfl, w0⟩ := DataW.trod_int Try.underlying2 e0
  obtain ⟨t, k1, rfl, w1⟩ := trod_flt Try.underlying24 e1
  obtain ⟨d, k2, rfl, w2⟩ := trod_flt Try.underlying24 e2
  obtain ⟨p, k3, rfl, w3⟩ := trod_flt Try.underlying24 e3
  obtain ⟨di, k4, rfl, w4⟩ := DataW.trod_int Try.underlying2 e4
  obtain ⟨sp, k5, rfl, w5⟩ := trod_flt Try.underlying24 e5
  obtain ⟨v, k6, rfl, w6⟩ := trod_flt Try.underlying24 e6
  obtain ⟨r, k7, rfl, w7⟩ := trod_flt Try.underlying24 e7
  obtain ⟨we, k8, rfl, w8⟩ := DataW.trod_int Try.underlying2 e8
  obtain ⟨cl, k9, rfl, w9⟩ := DataW.trod_int Try.underlying2 e9
  simp at k0 k1 k2 k3 k4 k5 k6 k7 k8 k9
  subst k0 k1 k2 k3 k4 k5 k6 k7 k8 k9
  simp at hx
  exact ⟨s, t, d, p, di, sp, v, r, we, cl, rfl, hx.1, hx.2, w0, w1, w2, w3, w4, w5, w6, w7, w8, w9⟩

set_option maxHeartbeats 4000000 in
theorem shutObs {s : Int} {t d p : Nat} {di : Int} {sp v r : Nat} {we cl : Int} (w0 : (Lit.int .i64 s).wf = true) (w1 : (Lit.float .f64 t).wf = true) (w2 : (Lit.float .f64 d).wf = true) (w3 : (Lit.float .f64 p).wf = true) (w4 : (Lit.int .i64 di).wf = true) (w5 : (Lit.float .f64 sp).wf = true) (w6 : (Lit.float .f64 v).wf = true) (w7 : (Lit.float .f64 r).wf = true) (w8 : (Lit.int .i64 we).wf = true) (w9 : (Lit.int .i64 cl).wf = true) :
    DataW.Trod enc Try.prog w base spare held 26 (Flt.ob s t d p di sp v r we cl) (.agg [.lit (.int .i64 s), .lit (.float .f64 t), .lit (.float .f64 d), .lit (.float .f64 p), .lit (.int .i64 di), .lit (.float .f64 sp), .lit (.float .f64 v), .lit (.float .f64 r), .lit (.int .i64 we), .lit (.int .i64 cl)]) [] := by
  refine ⟨2, ?_⟩
  simp [DataW.trod, Try.underlying26, Try.underlying2, Try.underlying24, cells26, cells2, cells24, Value.cells, w0, w1, w2, w3, w4, w5, w6, w7, w8, w9]

set_option maxRecDepth 100000 in
theorem lifted (os : Os) (started : os.Started) (H : Type) (enc : TypeId × Value → H) :
    ReturnsInHanded {} Try.checked os 4 .any (Rows.fnExactObsOkSpec.pre6 enc Try.prog Try.f4 Rows.fnExactObsOkRow.domain false) (Rows.fnExactObsOkSpec.post enc Try.prog Try.f4 false true false false) := by
  refine returnsInHanded_of_change (C := Try.checked) own started (by kernel_rfl) Try.func4
    (ChangeSpec.witness6 (enc := enc) (C := Try.checked) false ⟨#[], #[.agg #[.int .i64 0, .float .f64 0, .float .f64 0, .float .f64 0, .int .i64 0, .float .f64 0, .float .f64 0, .float .f64 0, .int .i64 0, .int .i64 0]], []⟩ 8 (by kernel_rfl) (by kernel_rfl) (by kernel_rfl) (by kernel_rfl)) ?_
  intro W base args ds gs before hval0 hW hcnd _
  have hval : ∀ (j : Nat) t v, Try.f4.params[j]? = some t → args[j]? = some v → Value.okWide Try.prog W .any base t v := hval0
  have hW' := hW
  obtain ⟨p, q, hA0, hV, rfl, hfz, hnd⟩ := hW
  have hA : DataW.TrodAll enc Try.prog W 0 (fun _ => true) true Try.f4.params.toList args.toList ds p := hA0
  rw [Try.params4] at hA hval
  obtain ⟨v0, vs0, d0, ds0, p0, q0, hargs, rfl, rfl, h0, r0⟩ := trodAll_cons hA
  obtain ⟨rfl, rfl, rfl⟩ := trodAll_nil r0
  obtain rfl : args = #[v0] := by cases args; simp_all
  obtain ⟨rfl, rfl⟩ := trodVars_none hV
  obtain ⟨ys, yt, yd, yp, ydi, ysp, yv, yr, ywe, ycl, rfl, rfl, rfl, w0, w1, w2, w3, w4, w5, w6, w7, w8, w9⟩ := openObs (hval 0 26 v0 rfl rfl) h0
  clear hA0 hval0
  simp only [List.append_nil] at hW'
  have b1 : yt < 18446744073709551616 := by simpa [Lit.wf] using w1
  have b2 : yd < 18446744073709551616 := by simpa [Lit.wf] using w2
  have b3 : yp < 18446744073709551616 := by simpa [Lit.wf] using w3
  have b5 : ysp < 18446744073709551616 := by simpa [Lit.wf] using w5
  have b6 : yv < 18446744073709551616 := by simpa [Lit.wf] using w6
  have b7 : yr < 18446744073709551616 := by simpa [Lit.wf] using w7
  refine (Flt.obsLaw ys yt yd yp ydi ysp yv yr ywe ycl W b1 b2 b3 b5 b6 b7).mono fun e W' ⟨he, bel⟩ => ?_
  subst he
  exact ⟨_, rfl, _, _, _, [], [], [], hW', (trodAll_cons_mk (shut_bool Try.underlying4 _) trodAll_mk0), (trodAll_cons_mk (shutObs w0 w1 w2 w3 w4 w5 w6 w7 w8 w9) trodAll_mk0), rfl, bel.frame _, fun h => by cases h⟩

theorem over : Rows.fnExactObsOkRow.holds Try.pinned (OpenSpec.ofChange Rows.fnExactObsOkSpec) :=
  OpenClaim.holds_of_wide 4 Try.f4 rfl rfl rfl rfl rfl rfl rfl ⟨rfl, rfl, rfl, rfl, rfl⟩ rfl rfl rfl rfl rfl (by kernel_rfl) Try.func4 (by kernel_rfl)
    (of_decide_eq_true (by kernel_rfl)) (by unfold Func.isWrapper; first | (rw [if_pos (by decide +kernel)]; kernel_rfl) | (rw [if_neg (by decide +kernel)]; exact ⟨rfl, rfl⟩))
    (fun os started H enc _ => lifted os started H enc)

/-- THE STATEMENT -/
theorem proved : Rows.FnExactObsOkSaid :=
  over
#print axioms proved
end Go.Proofs.Ytngchoonfheckaa.fnExactObsOk
