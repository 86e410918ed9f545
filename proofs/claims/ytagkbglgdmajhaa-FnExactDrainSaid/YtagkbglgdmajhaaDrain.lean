/- Drain: program and model answer alike at every box, write nothing into the box, and end. No conditions. -/
import Derived.Test.YtagkbglgdmajhaaDrA
import Derived.Test.YtagkbglgdmajhaaRows
import Derived.WalkKit
import Derived.ProofKit
import Derived.OpenShut
import Derived.ChangeOld
import Derived.Below
import Derived.Deep.Slices
import Derived.Lib.SmallJoins
namespace Go.Proofs.Ytagkbglgdmajhaa.fnExactDrain
open Go.ChangeShapes Go.WideShapes Go.ChangeAt Go.RowKit Go.Joins
set_option linter.unusedVariables false
variable {H : Type} {enc : TypeId × Value → H} {w : World} {base : Nat} {held : Bool}

theorem own : ownKnob Try.prog.godebug = none := by kernel_rfl
theorem laidOut : laidOutB Try.prog = true := by kernel_rfl
theorem cells2 : Try.prog.cellsOf 2 = 1 := by kernel_rfl
theorem cells22 : Try.prog.cellsOf 22 = 1 := by kernel_rfl
theorem opened {fuel : Nat} {v : Value} {x : DataW H × List MemPlace} (h : DataW.trod enc Try.prog w base (fun _ => true) held fuel 22 [v] = some x) :
    ∃ L : List Int, Lists.Reads w v L ∧ L.length < 9223372036854775808 := by
  rcases open_ints Try.underlying22 Try.underlying2 cells2 h with ⟨hcs, _⟩ | ⟨x, l, c, zs, hcs, _, hl, hm, hz, _, hcell, hwz⟩
  · simp at hcs
    subst hcs
    exact ⟨[], Or.inl ⟨rfl, _, _, rfl⟩, by simp⟩
  · simp at hcs
    subst hcs
    by_cases e0 : l = 0
    · subst e0
      exact ⟨[], Or.inl ⟨rfl, _, _, rfl⟩, by simp⟩
    · have hz' : zs.length = c := by simpa using hz
      obtain ⟨b, o, spot⟩ := x
      have hc := hcell 0 (by omega)
      have hspot : spot = none := by simpa [Addr.add] using World.cell?_spot hc
      subst hspot
      have hlen : (zs.take l).length = l := by simp; omega
      refine ⟨zs.take l, Or.inr ⟨b, o, c, by rw [hlen], by rw [hlen]; exact hl, hm, World.block_lt_of_cell? w _ (by simpa [Addr.add] using hc), fun i hi => ?_⟩, by rw [hlen]; unfold maxLen at hm; omega⟩
      rw [hlen] at hi
      have h1 := hcell i (by omega)
      have e : (⟨b, o, none⟩ : Addr).add i = ⟨b, o + i, none⟩ := by
        unfold Addr.add
        split
        · rename_i h; subst h; rfl
        · rfl
      rw [e] at h1
      rw [h1]
      simp [List.getD_eq_getElem?_getD, hi]
theorem cells24 : Try.prog.cellsOf 24 = 3 := by kernel_rfl
theorem arr24 {cs : Array Value} (h : cs.size = 3) : ∃ c0 c1 c2, cs = #[c0, c1, c2] := by
  obtain ⟨l⟩ := cs
  match l, h with
  | [c0, c1, c2], _ => exact ⟨c0, c1, c2, rfl⟩
set_option maxHeartbeats 1000000 in
theorem open24 {r : Reach} {b0 : Nat} {v : Value} {dd : DataW H} {p : List MemPlace} (hv : Value.okWide Try.prog w r b0 24 v) (hh : DataW.Trod enc Try.prog w base (fun _ => true) held 24 v dd p) : ∃ (n0 : Int) (n1 : Int) (v2 : Value) (L2 : List Int), v = .agg #[.int .i64 n0, .int .i64 n1, v2] ∧ Lists.Reads w v2 L2 ∧ L2.length < 9223372036854775808 := by
  obtain ⟨cs, rfl, hsz⟩ := okWide_struct Try.underlying24 hv
  obtain ⟨c0, c1, c2, rfl⟩ := arr24 (hsz.trans cells24)
  obtain ⟨fuel, hf⟩ := hh
  obtain ⟨xs, n, _, hx, _, hn, hel⟩ := DataW.trod_struct Try.underlying24 hf
  have e0 := hel 0 _ rfl
  have e1 := hel 1 _ rfl
  have e2 := hel 2 _ rfl
  simp [cells2, cells22, Value.cells] at e0 e1 e2 hn
  obtain ⟨x0, x1, x2, rfl⟩ : ∃ x0 x1 x2, xs = [x0, x1, x2] := by
    match xs, hn with
    | [x0, x1, x2], _ => exact ⟨x0, x1, x2, rfl⟩
  simp at e0 e1 e2
  obtain ⟨n0, k0, rfl, _⟩ := DataW.trod_int Try.underlying2 e0
  obtain ⟨n1, k1, rfl, _⟩ := DataW.trod_int Try.underlying2 e1
  obtain ⟨L2, hL2, lL2⟩ := opened e2
  simp at k0 k1
  subst k0 k1
  exact ⟨n0, n1, c2, L2, rfl, hL2, lL2⟩

set_option maxRecDepth 100000 in
theorem lifted (os : Os) (started : os.Started) (H : Type) (enc : TypeId × Value → H) :
    ReturnsInHanded {} Try.checked os 3 .any (Rows.fnExactDrainSpec.pre6 enc Try.prog Try.f3 Rows.fnExactDrainRow.domain false) (Rows.fnExactDrainSpec.post enc Try.prog Try.f3 false true false false) := by
  refine returnsInHanded_of_change (C := Try.checked) own started (by kernel_rfl) Try.func3
    (ChangeSpec.witness6 (enc := enc) (C := Try.checked) false ⟨#[], #[.agg #[.int .i64 0, .int .i64 0, .slice none 0 0]], []⟩ 8 (by kernel_rfl) (by kernel_rfl) (by kernel_rfl) (by kernel_rfl)) ?_
  intro W base args ds gs before hval0 hW hcnd _
  have hval : ∀ (j : Nat) t v, Try.f3.params[j]? = some t → args[j]? = some v → Value.okWide Try.prog W .any base t v := hval0
  have hW' := hW
  obtain ⟨p, q, hA0, hV, rfl, hfz, hnd⟩ := hW
  have hA : DataW.TrodAll enc Try.prog W 0 (fun _ => true) true Try.f3.params.toList args.toList ds p := hA0
  rw [Try.params3] at hA hval
  obtain ⟨v0, vs0, d0, ds0, p0, q0, hargs, rfl, rfl, h0, r0⟩ := trodAll_cons hA
  obtain ⟨rfl, rfl, rfl⟩ := trodAll_nil r0
  obtain rfl : args = #[v0] := by cases args; simp_all
  obtain ⟨rfl, rfl⟩ := trodVars_none hV
  have k0 := h0
  have lt0 : ∀ x ∈ p0, x.block < W.heap.size := by obtain ⟨m, hm⟩ := k0; exact DataW.trod_lt m _ _ _ hm
  obtain ⟨a0_0, a0_1, u0_2, L0_2, rfl, hR0_2, hf0_2⟩ := open24 (hval 0 24 v0 rfl rfl) h0
  clear hA0 hval0
  refine (Hm.drainAll W a0_0 a0_1 u0_2 L0_2 hR0_2 hf0_2).mono fun e W' ⟨he, bel⟩ => ?_
  subst he
  exact ⟨_, rfl, _, _, _, [], _, [], hW', trodAll_mk1 (shut_bool Try.underlying4 _), (trodAll_cons_mk (Below.trod laidOut (by kernel_rfl) (of_decide_eq_true (by kernel_rfl)) k0 bel lt0) trodAll_mk0), rfl, bel.frame _, fun h => by cases h⟩

theorem over : Rows.fnExactDrainRow.holds Try.pinned (OpenSpec.ofChange Rows.fnExactDrainSpec) :=
  OpenClaim.holds_of_wide 3 Try.f3 rfl rfl rfl rfl rfl rfl rfl ⟨rfl, rfl, rfl, rfl, rfl⟩ rfl rfl rfl rfl rfl (by kernel_rfl) Try.func3 (by kernel_rfl)
    (of_decide_eq_true (by kernel_rfl)) (by unfold Func.isWrapper; first | (rw [if_pos (by decide +kernel)]; kernel_rfl) | (rw [if_neg (by decide +kernel)]; exact ⟨rfl, rfl⟩))
    (fun os started H enc _ => lifted os started H enc)

/-- THE STATEMENT -/
theorem proved : Rows.FnExactDrainSaid :=
  over
#print axioms proved
end Go.Proofs.Ytagkbglgdmajhaa.fnExactDrain
