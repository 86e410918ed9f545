/- A list of lists that comes in as an argument, opened. -/
import Derived.Test.YtjoijffjnlencaaLl
import Derived.Deep.Slices
import Derived.ChangeSame
import Derived.Laws.Cover2
namespace Go.Proofs.Ytjoijffjnlencaa.Ll
open Go.ChangeShapes Go.WideShapes Go.ChangeAt Go.RowKit Go.Deep
variable {H : Type} {enc : TypeId × Value → H} {w : World} {base : Nat} {spare : Nat → Bool} {held : Bool}
theorem cellsI : Try.prog.cellsOf 2 = 1 := by kernel_rfl
theorem cellsL : Try.prog.cellsOf 24 = 1 := by kernel_rfl
theorem openL {fuel : Nat} {v : Value} {x : DataW H × List MemPlace} (h : DataW.trod enc Try.prog w base spare held fuel 24 [v] = some x) : ∃ L : List Int, Lists.Reads w v L := by
  rcases open_ints Try.underlying24 Try.underlying2 cellsI h with ⟨hcs, _⟩ | ⟨x, l, c, zs, hcs, _, hl, hm, hz, _, hcell, hwz⟩
  · simp at hcs
    subst hcs
    exact ⟨[], Or.inl ⟨rfl, _, _, rfl⟩⟩
  · simp at hcs
    subst hcs
    by_cases e0 : l = 0
    · subst e0
      exact ⟨[], Or.inl ⟨rfl, _, _, rfl⟩⟩
    · have hz' : l ≤ zs.length := by rw [hz]; split <;> omega
      obtain ⟨b, o, spot⟩ := x
      have hc := hcell 0 (by omega)
      have hspot : spot = none := by simpa [Addr.add] using World.cell?_spot hc
      subst hspot
      have hlen : (zs.take l).length = l := by simp; omega
      refine ⟨zs.take l, Or.inr ⟨b, o, c, by rw [hlen], by rw [hlen]; exact hl, hm, World.block_lt_of_cell? w _ (by simpa [Addr.add] using hc), fun i hi => ?_⟩⟩
      rw [hlen] at hi
      have h1 := hcell i (by omega)
      have e : (⟨b, o, none⟩ : Addr).add i = ⟨b, o + i, none⟩ := by
        unfold Addr.add
        split
        · rename_i h; subst h; rfl
        · rfl
      rw [e] at h1
      rw [h1]
      simp [List.getD_eq_getElem?_getD, hi]
set_option maxHeartbeats 1000000 in
theorem opened {v : Value} {fuel : Nat} {x : DataW H × List MemPlace} {a : Option Addr} {len cap : Nat} (hv : v = .slice a len cap) (h : DataW.trod enc Try.prog w base spare held fuel 22 v.cells.toList = some x) :
    ∃ L : Ls, Reads w v L := by
  subst hv
  rcases open_slice Try.underlying22 h with ⟨hcs, _⟩ | ⟨ad, l, c, m, n, D, Pl, hcs, hb, hl, hm, hmm, _, hx⟩
  · simp [Value.cells] at hcs
    obtain ⟨rfl, rfl, rfl⟩ := hcs
    exact ⟨[], Or.inl ⟨rfl, _, _, rfl⟩⟩
  · simp [Value.cells] at hcs
    obtain ⟨rfl, rfl, rfl⟩ := hcs
    have hle : len ≤ m := by rw [hmm]; split <;> omega
    have hone : ∀ i, i < len → ∃ z : List Int, ∃ u, w.cell? (ad.add i) = some u ∧ Lists.Reads w u z := by
      intro i hi
      obtain ⟨cs', h1, h2⟩ := hx i (by omega)
      rw [cellsL] at h1
      obtain ⟨_, hlen, hcell⟩ := World.cells?_some h1
      match cs', hlen with
      | [v0], _ =>
        obtain ⟨ll, hll⟩ := openL h2
        have q0 := hcell 0 (by omega)
        rw [add_add] at q0
        exact ⟨ll, v0, by simpa using q0, hll⟩
    have hf : ∃ f : Nat → List Int, ∀ i, i < len → ∃ u, w.cell? (ad.add i) = some u ∧ Lists.Reads w u (f i) :=
      ⟨fun i => if h : i < len then Classical.choose (hone i h) else [], fun i hi => by simp only [hi, dif_pos]; exact Classical.choose_spec (hone i hi)⟩
    obtain ⟨f, hf⟩ := hf
    have hlen : ((List.range len).map f).length = len := by simp
    refine ⟨(List.range len).map f, ?_⟩
    by_cases h0 : len = 0
    · subst h0
      exact Or.inl ⟨rfl, _, _, rfl⟩
    · obtain ⟨b, o, spot⟩ := ad
      obtain ⟨uc, hc, _⟩ := hf 0 (by omega)
      have hspot : spot = none := by simpa [Addr.add] using World.cell?_spot hc
      subst hspot
      have ad : ∀ k, (⟨b, o, none⟩ : Addr).add k = ⟨b, o + k, none⟩ := by
        intro k
        unfold Addr.add
        split
        · rename_i h; subst h; rfl
        · rfl
      refine Or.inr ⟨b, o, cap, by rw [hlen], by rw [hlen]; exact hl, hm, World.block_lt_of_cell? w _ hc, fun i hi => ?_⟩
      rw [hlen] at hi
      obtain ⟨u, hu, hr⟩ := hf i hi
      rw [ad] at hu
      have el : cl ((List.range len).map f) i = f i := by simp [cl, hi]
      unfold Cs
      rw [el]
      exact ⟨u, hu, hr⟩
end Go.Proofs.Ytjoijffjnlencaa.Ll
