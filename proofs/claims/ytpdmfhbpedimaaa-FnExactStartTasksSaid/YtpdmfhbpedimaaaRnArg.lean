/- A run that comes in as an argument, opened. -/
import Derived.Test.YtpdmfhbpedimaaaRu
import Derived.Test.YtpdmfhbpedimaaaTkArg
import Derived.Test.YtpdmfhbpedimaaaJbArg
import Derived.WalkKit
import Derived.ProofKit
import Derived.OpenShut
import Derived.ChangeOld
import Derived.Below
import Derived.Deep.Slices
import Derived.Lib.SmallJoins
namespace Go.Proofs.Ytpdmfhbpedimaaa.Ru
open Go.ChangeShapes Go.WideShapes Go.ChangeAt Go.RowKit Go.Joins
set_option linter.unusedVariables false
variable {H : Type} {enc : TypeId × Value → H} {w : World} {base : Nat} {held : Bool}
theorem cells2 : Try.prog.cellsOf 2 = 1 := by kernel_rfl
theorem cells23 : Try.prog.cellsOf 23 = 1 := by kernel_rfl
theorem cells26 : Try.prog.cellsOf 26 = 1 := by kernel_rfl
theorem cells25 : Try.prog.cellsOf 25 = 2 := by kernel_rfl
theorem cells28 : Try.prog.cellsOf 28 = 4 := by kernel_rfl
theorem opened {fuel : Nat} {v : Value} {x : DataW H × List MemPlace} (h : DataW.trod enc Try.prog w base (fun _ => true) held fuel 23 [v] = some x) :
    ∃ L : List Int, Lists.Reads w v L ∧ L.length < 9223372036854775808 := by
  rcases open_ints Try.underlying23 Try.underlying2 cells2 h with ⟨hcs, _⟩ | ⟨x, l, c, zs, hcs, _, hl, hm, hz, _, hcell, hwz⟩
  · simp at hcs
    subst hcs
    exact ⟨[], Or.inl ⟨rfl, _, _, rfl⟩, by simp⟩
  · simp at hcs
    subst hcs
    by_cases e0 : l = 0
    · subst e0
      exact ⟨[], Or.inl ⟨rfl, _, _, rfl⟩, by simp⟩
    · have hz' : zs.length = c := by simpa using hz
      obtain ⟨b, o, spot⟩ := x
      have hc := hcell 0 (by omega)
      have hspot : spot = none := by simpa [Addr.add] using World.cell?_spot hc
      subst hspot
      have hlen : (zs.take l).length = l := by simp; omega
      refine ⟨zs.take l, Or.inr ⟨b, o, c, by rw [hlen], by rw [hlen]; exact hl, hm, World.block_lt_of_cell? w _ (by simpa [Addr.add] using hc), fun i hi => ?_⟩, by rw [hlen]; unfold maxLen at hm; omega⟩
      rw [hlen] at hi
      have h1 := hcell i (by omega)
      have e : (⟨b, o, none⟩ : Addr).add i = ⟨b, o + i, none⟩ := by
        unfold Addr.add
        split
        · rename_i h; subst h; rfl
        · rfl
      rw [e] at h1
      rw [h1]
      simp [List.getD_eq_getElem?_getD, hi]
theorem cells22 : Try.prog.cellsOf 22 = 1 := by kernel_rfl
theorem openedTk {fuel : Nat} {v : Value} {x : DataW H × List MemPlace} (h : DataW.trod enc Try.prog w base (fun _ => true) held fuel 22 [v] = some x) : ∃ L : Tk.Ls, Tk.Reads w v L := by
  have hs : ∃ a l c, v = .slice a l c := by
    rcases Go.Deep.open_slice Try.underlying22 h with ⟨hcs, _⟩ | ⟨ad, l, c, m, n, D, Pl, hcs, _⟩
    · simp at hcs; exact ⟨_, _, _, hcs⟩
    · simp at hcs; exact ⟨_, _, _, hcs⟩
  obtain ⟨a, l, c, rfl⟩ := hs
  exact Tk.opened rfl (by simpa [Value.cells] using h)
theorem openedJb {fuel : Nat} {v : Value} {x : DataW H × List MemPlace} (h : DataW.trod enc Try.prog w base (fun _ => true) held fuel 26 [v] = some x) : ∃ L : Jb.Ls, Jb.Reads w v L := by
  have hs : ∃ a l c, v = .slice a l c := by
    rcases Go.Deep.open_slice Try.underlying26 h with ⟨hcs, _⟩ | ⟨ad, l, c, m, n, D, Pl, hcs, _⟩
    · simp at hcs; exact ⟨_, _, _, hcs⟩
    · simp at hcs; exact ⟨_, _, _, hcs⟩
  obtain ⟨a, l, c, rfl⟩ := hs
  obtain ⟨L, h1, _⟩ := Jb.opened rfl (by simpa [Value.cells] using h)
  exact ⟨L, h1⟩
theorem arr28 {cs : Array Value} (h : cs.size = 4) : ∃ c0 c1 c2 c3, cs = #[c0, c1, c2, c3] := by
  obtain ⟨l⟩ := cs
  match l, h with
  | [c0, c1, c2, c3], _ => exact ⟨c0, c1, c2, c3, rfl⟩
set_option maxRecDepth 20000 in
set_option maxHeartbeats 1000000 in
theorem open28 {r : Reach} {b0 : Nat} {v : Value} {dd : DataW H} {p : List MemPlace} (hv : Value.okWide Try.prog w r b0 28 v) (hh : DataW.Trod enc Try.prog w base (fun _ => true) held 28 v dd p) : ∃ (vr vx vj : Value) (now : Int) (R : Tk.Ls) (X : List Int) (J : Jb.Ls), v = rv vr vx now vj ∧ RR w vr vx vj R X J := by
  obtain ⟨cs, rfl, hsz⟩ := okWide_struct Try.underlying28 hv
  obtain ⟨c0, c1, c2, c3, rfl⟩ := arr28 (hsz.trans cells28)
  obtain ⟨fuel, hf⟩ := hh
  obtain ⟨xs, n, _, hx, _, hn, hel⟩ := DataW.trod_struct Try.underlying28 hf
  have e0 := hel 0 _ rfl
  have e1 := hel 1 _ rfl
  have e2 := hel 2 _ rfl
  simp [cells2, cells25, cells26, Value.cells] at e0 e1 e2 hn
  obtain ⟨x0, x1, x2, rfl⟩ : ∃ x0 x1 x2, xs = [x0, x1, x2] := by
    match xs, hn with
    | [x0, x1, x2], _ => exact ⟨x0, x1, x2, rfl⟩
  simp at e0 e1 e2
  obtain ⟨n1, k1, rfl, _⟩ := DataW.trod_int Try.underlying2 e1
  simp at k1
  subst k1
  obtain ⟨L3, hL3⟩ := openedJb e2
  obtain ⟨ys, n', _, hy, _, hn', hel'⟩ := DataW.trod_struct Try.underlying25 e0
  have f0 := hel' 0 _ rfl
  have f1 := hel' 1 _ rfl
  simp [cells23, cells22] at f0 f1 hn'
  obtain ⟨y0, y1, rfl⟩ : ∃ y0 y1, ys = [y0, y1] := by
    match ys, hn' with
    | [y0, y1], _ => exact ⟨y0, y1, rfl⟩
  simp at f0 f1
  obtain ⟨L1, hL1, _⟩ := opened f1
  obtain ⟨L0, hL0⟩ := openedTk f0
  exact ⟨c0, c1, c3, n1, L0, L1, L3, rfl, hL0, hL1, hL3⟩
end Go.Proofs.Ytpdmfhbpedimaaa.Ru
