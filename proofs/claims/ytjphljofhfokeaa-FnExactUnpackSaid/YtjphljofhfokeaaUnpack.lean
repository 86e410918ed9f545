/- Proved here: for every Packed (five int64, a list of bytes, a list of int64) the law FnExactUnpack returns true, that is, Unpack answers as its model, writes into no argument, and its answer owns its memory. No condition. -/
import Derived.Test.YtjphljofhfokeaaXpE
import Derived.Test.YtjphljofhfokeaaRows
import Derived.WalkKit
import Derived.ProofKit
import Derived.OpenShut
import Derived.ChangeOld
import Derived.Below
import Derived.Deep.Slices
import Derived.Lib.SmallJoins
namespace Go.Proofs.Ytjphljofhfokeaa.fnExactUnpack
open Go.ChangeShapes Go.WideShapes Go.ChangeAt Go.RowKit Go.Joins
set_option linter.unusedVariables false
variable {H : Type} {enc : TypeId × Value → H} {w : World} {base : Nat} {spare : Nat → Bool} {held : Bool}

theorem own : ownKnob Try.prog.godebug = none := by kernel_rfl
theorem laidOut : laidOutB Try.prog = true := by kernel_rfl
theorem cells35 : Try.prog.cellsOf 35 = 7 := by kernel_rfl
theorem cells2 : Try.prog.cellsOf 2 = 1 := by kernel_rfl
theorem cells23 : Try.prog.cellsOf 23 = 1 := by kernel_rfl
theorem cells24 : Try.prog.cellsOf 24 = 1 := by kernel_rfl

theorem opened {t e : TypeId} {k : IntKind} {fuel : Nat} {v : Value} {x : DataW H × List MemPlace} (ht : Try.prog.underlying t = some (.slice e)) (he : Try.prog.underlying e = some (.int k)) (hc : Try.prog.cellsOf e = 1) (h : DataW.trod enc Try.prog w base (fun _ => true) held fuel t [v] = some x) :
    ∃ L : List Int, ((L = [] ∧ ∃ a cap, v = .slice a 0 cap) ∨ ∃ b o cap, v = .slice (some ⟨b, o, none⟩) L.length cap ∧ L.length ≤ cap ∧ cap ≤ maxLen ∧ b < w.heap.size ∧ ∀ i, i < L.length → w.cell? ⟨b, o + i, none⟩ = some (.int k (L.getD i 0))) ∧ L.length < 9223372036854775808 ∧ ∀ n ∈ L, (Lit.int k n).wf = true := by
  rcases open_ints ht he hc h with ⟨hcs, _⟩ | ⟨x, l, c, zs, hcs, _, hl, hm, hz, _, hcell, hwz⟩
  · simp at hcs
    subst hcs
    exact ⟨[], Or.inl ⟨rfl, _, _, rfl⟩, by simp, by simp⟩
  · simp at hcs
    subst hcs
    by_cases e0 : l = 0
    · subst e0
      exact ⟨[], Or.inl ⟨rfl, _, _, rfl⟩, by simp, by simp⟩
    · have hz' : zs.length = c := by simpa using hz
      obtain ⟨b, o, spot⟩ := x
      have hc := hcell 0 (by omega)
      have hspot : spot = none := by simpa [Addr.add] using World.cell?_spot hc
      subst hspot
      have hlen : (zs.take l).length = l := by simp; omega
      refine ⟨zs.take l, Or.inr ⟨b, o, c, by rw [hlen], by rw [hlen]; exact hl, hm, World.block_lt_of_cell? w _ (by simpa [Addr.add] using hc), fun i hi => ?_⟩, by rw [hlen]; unfold maxLen at hm; omega, fun n hn => hwz n (List.mem_of_mem_take hn)⟩
      rw [hlen] at hi
      have h1 := hcell i (by omega)
      have e : (⟨b, o, none⟩ : Addr).add i = ⟨b, o + i, none⟩ := by
        unfold Addr.add
        split
        · rename_i h; subst h; rfl
        · rfl
      rw [e] at h1
      rw [h1]
      simp [List.getD_eq_getElem?_getD, hi]

theorem arr7 {cs : Array Value} (h : cs.size = 7) : ∃ a b c d e f g, cs = #[a, b, c, d, e, f, g] := by
  obtain ⟨l⟩ := cs
  match l, h with
  | [a, b, c, d, e, f, g], _ => exact ⟨a, b, c, d, e, f, g, rfl⟩

set_option maxHeartbeats 1000000 in
theorem openPacked {r : Reach} {b0 : Nat} {v : Value} {dd : DataW H} {p : List MemPlace} (hv : Value.okWide Try.prog w r b0 35 v) (hh : DataW.Trod enc Try.prog w base (fun _ => true) held 35 v dd p) :
    ∃ (q : Pkd.Pk) (t c : Value), v = Pkd.pkv q t c ∧ Bytes.Reads w t q.th ∧ Lists.Reads w c q.cd ∧ Pkd.byts q.th ∧ q.th.length < 9223372036854775808 ∧ q.cd.length < 9223372036854775808 := by
  obtain ⟨cs, rfl, hsz⟩ := okWide_struct Try.underlying35 hv
  obtain ⟨c0, c1, c2, c3, c4, c5, c6, rfl⟩ := arr7 (hsz.trans cells35)
  obtain ⟨fuel, hf⟩ := hh
  obtain ⟨xs, n, _, hx, _, hn, hel⟩ := DataW.trod_struct Try.underlying35 hf
  have e0 := hel 0 _ rfl
  have e1 := hel 1 _ rfl
  have e2 := hel 2 _ rfl
  have e3 := hel 3 _ rfl
  have e4 := hel 4 _ rfl
  have e5 := hel 5 _ rfl
  have e6 := hel 6 _ rfl
  simp [cells2, cells23, cells24, Value.cells] at e0 e1 e2 e3 e4 e5 e6 hn
  obtain ⟨x0, x1, x2, x3, x4, x5, x6, rfl⟩ : ∃ a b c d e f g, xs = [a, b, c, d, e, f, g] := by
    match xs, hn with
    | [a, b, c, d, e, f, g], _ => exact ⟨a, b, c, d, e, f, g, rfl⟩
  simp at e0 e1 e2 e3 e4 e5 e6
  obtain ⟨n0, k0, rfl, _⟩ := DataW.trod_int Try.underlying2 e0
  obtain ⟨n1, k1, rfl, _⟩ := DataW.trod_int Try.underlying2 e1
  obtain ⟨n2, k2, rfl, _⟩ := DataW.trod_int Try.underlying2 e2
  obtain ⟨n3, k3, rfl, _⟩ := DataW.trod_int Try.underlying2 e3
  obtain ⟨n4, k4, rfl, _⟩ := DataW.trod_int Try.underlying2 e4
  obtain ⟨T, hT, lT, wT⟩ := opened Try.underlying23 Try.underlying5 (by kernel_rfl) e5
  obtain ⟨C, hC, lC, _⟩ := opened Try.underlying24 Try.underlying2 (by kernel_rfl) e6
  simp at k0 k1 k2 k3 k4
  subst k0 k1 k2 k3 k4
  refine ⟨⟨n0, n1, n2, n3, n4, T, C⟩, c5, c6, rfl, hT, hC, fun x hx => ?_, lT, lC⟩
  have := wT x hx
  simp [Lit.wf] at this
  have hm : IntKind.u8.min = 0 := rfl
  have hM : IntKind.u8.max = 255 := rfl
  omega

set_option maxRecDepth 100000 in
theorem lifted (os : Os) (started : os.Started) (H : Type) (enc : TypeId × Value → H) :
    ReturnsInHanded {} Try.checked os 4 .any (Rows.fnExactUnpackSpec.pre6 enc Try.prog Try.f4 Rows.fnExactUnpackRow.domain false) (Rows.fnExactUnpackSpec.post enc Try.prog Try.f4 false true false false) := by
  refine returnsInHanded_of_change (C := Try.checked) own started (by kernel_rfl) Try.func4
    (ChangeSpec.witness6 (enc := enc) (C := Try.checked) false ⟨#[], #[.agg #[.int .i64 0, .int .i64 0, .int .i64 0, .int .i64 0, .int .i64 0, .slice none 0 0, .slice none 0 0]], []⟩ 8 (by kernel_rfl) (by kernel_rfl) (by kernel_rfl) (by kernel_rfl)) ?_
  intro W base args ds gs before hval0 hW hcnd _
  have hval : ∀ (j : Nat) t v, Try.f4.params[j]? = some t → args[j]? = some v → Value.okWide Try.prog W .any base t v := hval0
  have hW' := hW
  obtain ⟨p, q, hA0, hV, rfl, hfz, hnd⟩ := hW
  have hA : DataW.TrodAll enc Try.prog W 0 (fun _ => true) true Try.f4.params.toList args.toList ds p := hA0
  rw [Try.params4] at hA hval
  obtain ⟨v0, vs0, d0, ds0, p0, q0, hargs, rfl, rfl, h0, r0⟩ := trodAll_cons hA
  obtain ⟨rfl, rfl, rfl⟩ := trodAll_nil r0
  obtain rfl : args = #[v0] := by cases args; simp_all
  obtain ⟨rfl, rfl⟩ := trodVars_none hV
  have k0 := h0
  have lt0 : ∀ x ∈ p0, x.block < W.heap.size := by obtain ⟨m, hm⟩ := k0; exact DataW.trod_lt m _ _ _ hm
  obtain ⟨pk, t, c, rfl, hT, hC, hB, m1, m2⟩ := openPacked (hval 0 35 v0 rfl rfl) h0
  clear hA0 hval0
  refine (Pkd.unpackLaw pk t c W hT hC hB m1 m2).mono fun e W' ⟨he, bel⟩ => ?_
  subst he
  exact ⟨_, rfl, _, _, _, [], _, [], hW', trodAll_mk1 (shut_bool Try.underlying4 _), (trodAll_cons_mk (Below.trod laidOut (by kernel_rfl) (of_decide_eq_true (by kernel_rfl)) k0 bel lt0) trodAll_mk0), rfl, bel.frame _, fun h => by cases h⟩

theorem over : Rows.fnExactUnpackRow.holds Try.pinned (OpenSpec.ofChange Rows.fnExactUnpackSpec) :=
  OpenClaim.holds_of_wide 4 Try.f4 rfl rfl rfl rfl rfl rfl rfl ⟨rfl, rfl, rfl, rfl, rfl⟩ rfl rfl rfl rfl rfl (by kernel_rfl) Try.func4 (by kernel_rfl)
    (of_decide_eq_true (by kernel_rfl)) (by unfold Func.isWrapper; first | (rw [if_pos (by decide +kernel)]; kernel_rfl) | (rw [if_neg (by decide +kernel)]; exact ⟨rfl, rfl⟩))
    (fun os started H enc _ => lifted os started H enc)

/-- THE STATEMENT -/
theorem proved : Rows.FnExactUnpackSaid :=
  over
#print axioms proved
end Go.Proofs.Ytjphljofhfokeaa.fnExactUnpack
