/- A list of structs with a list in each that comes in as an argument, opened. -/
import Derived.Test.YtaakiemmodncpaaRw
import Derived.Deep.Slices
import Derived.ChangeSame
import Derived.Laws.Cover2
namespace Go.Proofs.Ytaakiemmodncpaa.Rw
open Go.ChangeShapes Go.WideShapes Go.ChangeAt Go.RowKit Go.Deep
variable {H : Type} {enc : TypeId × Value → H} {w : World} {base : Nat} {spare : Nat → Bool} {held : Bool}
theorem cellsE : Try.prog.cellsOf 70 = 3 := by kernel_rfl
theorem cellsI : Try.prog.cellsOf 2 = 1 := by kernel_rfl
theorem cellsL : Try.prog.cellsOf 22 = 1 := by kernel_rfl
theorem openL {fuel : Nat} {v : Value} {x : DataW H × List MemPlace} (h : DataW.trod enc Try.prog w base spare held fuel 22 [v] = some x) : ∃ L : List Int, Lists.Reads w v L := by
  rcases open_ints Try.underlying22 Try.underlying2 cellsI h with ⟨hcs, _⟩ | ⟨x, l, c, zs, hcs, _, hl, hm, hz, _, hcell, hwz⟩
  · simp at hcs
    subst hcs
    exact ⟨[], Or.inl ⟨rfl, _, _, rfl⟩⟩
  · simp at hcs
    subst hcs
    by_cases e0 : l = 0
    · subst e0
      exact ⟨[], Or.inl ⟨rfl, _, _, rfl⟩⟩
    · have hz' : l ≤ zs.length := by rw [hz]; split <;> omega
      obtain ⟨b, o, spot⟩ := x
      have hc := hcell 0 (by omega)
      have hspot : spot = none := by simpa [Addr.add] using World.cell?_spot hc
      subst hspot
      have hlen : (zs.take l).length = l := by simp; omega
      refine ⟨zs.take l, Or.inr ⟨b, o, c, by rw [hlen], by rw [hlen]; exact hl, hm, World.block_lt_of_cell? w _ (by simpa [Addr.add] using hc), fun i hi => ?_⟩⟩
      rw [hlen] at hi
      have h1 := hcell i (by omega)
      have e : (⟨b, o, none⟩ : Addr).add i = ⟨b, o + i, none⟩ := by
        unfold Addr.add
        split
        · rename_i h; subst h; rfl
        · rfl
      rw [e] at h1
      rw [h1]
      simp [List.getD_eq_getElem?_getD, hi]
set_option maxHeartbeats 1000000 in
theorem opened {v : Value} {fuel : Nat} {x : DataW H × List MemPlace} {a : Option Addr} {len cap : Nat} (hv : v = .slice a len cap) (h : DataW.trod enc Try.prog w base spare held fuel 23 v.cells.toList = some x) :
    ∃ L : Ls, Reads w v L := by
  subst hv
  rcases open_slice Try.underlying23 h with ⟨hcs, _⟩ | ⟨ad, l, c, m, n, D, Pl, hcs, hb, hl, hm, hmm, _, hx⟩
  · simp [Value.cells] at hcs
    obtain ⟨rfl, rfl, rfl⟩ := hcs
    exact ⟨[], Or.inl ⟨rfl, _, _, rfl⟩⟩
  · simp [Value.cells] at hcs
    obtain ⟨rfl, rfl, rfl⟩ := hcs
    have hle : len ≤ m := by rw [hmm]; split <;> omega
    have hone : ∀ i, i < len → ∃ z : El, w.cell? (ad.add (i * 3 + 1)) = some (.int .i64 (z.1 1)) ∧ w.cell? (ad.add (i * 3 + 2)) = some (.int .i64 (z.1 2)) ∧ ∃ u, w.cell? (ad.add (i * 3 + 0)) = some u ∧ Lists.Reads w u z.2 := by
      intro i hi
      obtain ⟨cs', h1, h2⟩ := hx i (by omega)
      rw [cellsE] at h1
      obtain ⟨_, hlen, hcell⟩ := World.cells?_some h1
      obtain ⟨xs, k, _, _, _, hxl, hf⟩ := DataW.trod_struct Try.underlying70 h2
      match xs, hxl, cs', hlen with
      | [y0, y1, y2], _, [v0, v1, v2], _ =>
        have g0 := hf 0 _ rfl
        have g1 := hf 1 _ rfl
        have g2 := hf 2 _ rfl
        simp [cellsI, cellsL] at g0 g1 g2
        obtain ⟨n1, e1, _, _⟩ := DataW.trod_int Try.underlying2 g1
        obtain ⟨n2, e2, _, _⟩ := DataW.trod_int Try.underlying2 g2
        obtain ⟨ll, hll⟩ := openL g0
        simp at e1 e2
        subst e1 e2
        have q0 := hcell 0 (by omega)
        have q1 := hcell 1 (by omega)
        have q2 := hcell 2 (by omega)
        rw [add_add] at q0 q1 q2
        exact ⟨(fun j => if j = 1 then n1 else if j = 2 then n2 else 0, ll), by simpa using q1, by simpa using q2, _, by simpa using q0, hll⟩
    have hf : ∃ f : Nat → El, ∀ i, i < len → w.cell? (ad.add (i * 3 + 1)) = some (.int .i64 ((f i).1 1)) ∧ w.cell? (ad.add (i * 3 + 2)) = some (.int .i64 ((f i).1 2)) ∧ ∃ u, w.cell? (ad.add (i * 3 + 0)) = some u ∧ Lists.Reads w u (f i).2 :=
      ⟨fun i => if h : i < len then Classical.choose (hone i h) else (fun _ => 0, []), fun i hi => by simp only [hi, dif_pos]; exact Classical.choose_spec (hone i hi)⟩
    obtain ⟨f, hf⟩ := hf
    have hlen : ((List.range len).map f).length = len := by simp
    refine ⟨(List.range len).map f, ?_⟩
    by_cases h0 : len = 0
    · subst h0
      exact Or.inl ⟨rfl, _, _, rfl⟩
    · obtain ⟨b, o, spot⟩ := ad
      obtain ⟨_, _, uc, hc, _⟩ := hf 0 (by omega)
      have hspot : spot = none := by simpa [Addr.add] using World.cell?_spot hc
      subst hspot
      have ad : ∀ k, (⟨b, o, none⟩ : Addr).add k = ⟨b, o + k, none⟩ := by
        intro k
        unfold Addr.add
        split
        · rename_i h; subst h; rfl
        · rfl
      refine Or.inr ⟨b, o, cap, by rw [hlen], by rw [hlen]; exact hl, hm, World.block_lt_of_cell? w _ hc, fun i hi => ?_⟩
      rw [hlen] at hi
      obtain ⟨h11, h12, u, hu, hr⟩ := hf i hi
      rw [ad] at h11 h12 hu
      have ez : ∀ j, cz ((List.range len).map f) i j = (f i).1 j := fun j => by simp [cz, hi]
      have el : cl ((List.range len).map f) i = (f i).2 := by simp [cl, hi]
      unfold Cs
      rw [el]
      simp only [ez]
      exact ⟨by simpa [Nat.add_assoc] using h11, by simpa [Nat.add_assoc] using h12, u, by simpa [Nat.add_assoc] using hu, hr⟩
end Go.Proofs.Ytaakiemmodncpaa.Rw
